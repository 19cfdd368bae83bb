/-
  CONTRACTS of package rate: Valid, Bits, Symbol, Preamble: each in one, of whatever rate.
-/
import Derived.Test.YtlkoleannlpflaaDoorRateA
namespace Go.Proofs.YtlkoleannlpflaaDoor
open Go.ChangeShapes Go.WideShapes Go.ChangeAt Go.RowKit
set_option linter.unusedVariables false
set_option linter.unusedSimpArgs false

abbrev Rt.arr (r : Rt) : Array Value := #[.int .i64 r.m, .int .i64 r.c, .int .i64 r.s, .int .i64 r.w, .int .i64 r.g]
abbrev Rt.val (r : Rt) : Value := .agg r.arr
theorem sizeRate : (Tryd.prog.info? 23).map (·.size) = some 5 := by kernel_rfl

/-! ### what Valid reckons -/
def kI (m : Int) (i : Nat) : Int := (kindI m).getD i 0
theorem valid_kind (r : Rt) : validR r = (withB r.c (kI r.m 0) && decide (1 ≤ r.s) && decide (r.s ≤ kI r.m 1) && withB (wid r.w) (kI r.m 2) && withB r.g (kI r.m 3)) := by
  have hw := wid_lo r.w
  by_cases h1 : r.m = 1
  · unfold validR kI withB inB
    rw [if_pos h1, h1, kind_1]
    rw [Bool.eq_iff_iff]
    simp
    omega
  by_cases h2 : r.m = 2
  · unfold validR kI withB inB
    rw [if_neg h1, if_pos h2, h2, kind_2]
    rw [Bool.eq_iff_iff]
    simp
    omega
  by_cases h3 : r.m = 3
  · unfold validR kI withB inB
    rw [if_neg h1, if_neg h2, if_pos h3, h3, kind_3]
    rw [Bool.eq_iff_iff]
    simp
    omega
  by_cases h4 : r.m = 4
  · unfold validR kI withB inB
    rw [if_neg h1, if_neg h2, if_neg h3, if_pos h4, h4, kind_4]
    rw [Bool.eq_iff_iff]
    simp
    omega
  · unfold validR kI withB
    rw [if_neg h1, if_neg h2, if_neg h3, if_neg h4, kind_0 h1 h2 h3 h4]
    rw [eq_comm, Bool.eq_false_iff]
    simp
    try omega
theorem kc_cell {w : World} {g : Nat} {m : Int} {t : TypeId} {fr : Nat × Nat} (h : w.heap[g]? = some (.cells (kindC m) t fr)) (i : Nat) (hi : i < 13) : w.cell? ⟨g, i, none⟩ = some (.int .i64 (kI m i)) := by
  have := kc_at (kindI m) i (by rw [kindI_len]; exact hi)
  simp only [World.cell?, h]
  exact this
theorem rt_cell {w : World} {g : Nat} {r : Rt} {t : TypeId} {fr : Nat × Nat} (h : w.heap[g]? = some (.cells r.arr t fr)) (i : Nat) : w.cell? ⟨g, i, none⟩ = r.arr[i]? := by
  simp only [World.cell?, h]
  rfl
set_option maxRecDepth 100000 in
set_option maxHeartbeats 4000000 in
theorem valid_any (r : Rt) (w : World) :
    Calls Tryd.prog 19 #[r.val] w fun e w' => e = .returned (.bool (validR r)) ∧ Below w.heap.size w w' := by
  have HV := Lib.hid (valid_kind r)
  have HB := Lib.hid ((Below.refl w.heap.size w).alloc (Nat.le_refl _) (.cells r.arr 23))
  have HG := Lib.hid (heap_alloc_last w (.cells r.arr 23))
  have c0 := rt_cell HG.out 0
  obtain ⟨m, c, s, wd, g⟩ := r
  dsimp only [Rt.arr] at c0 HB HG ⊢
  go_enter Tryd.func19, Tryd.ntmps19
  go_wp2_with (fail)
  generalize World.alloc w _ = w2 at *
  refine (kindOf_any m _).mono ?_
  rintro e w3 ⟨rfl, hB⟩
  have T0 := Lib.hid (HB.out.trans (hB.mono HB.out.size))
  have T1 := Lib.hid ((hB.block _ (lt_blk HG.out)).trans HG.out)
  clear hB HB HG c0
  have HB := Lib.hid (T0.out.alloc T0.out.size (.cells (kindC m) 54))
  have HG := Lib.hid (((Below.refl w3.heap.size w3).alloc (Nat.le_refl _) (.cells (kindC m) 54)).block _ (lt_blk T1.out) |>.trans T1.out)
  have HK := Lib.hid (heap_alloc_last w3 (.cells (kindC m) 54))
  have hC : (kindC m).size = 13 := by unfold kindC; rw [kc_size, kindI_len]
  clear T0 T1
  go_wp2_with (refine wpList_store_row rfl 54 (.tmp 3) (.tmp 6) rfl w3.heap.size (kindC m) rfl rfl 54 zk (heap_alloc_last _ _) (by rw [hC]; exact sizeKind) (by rw [hC]; rfl) (kc_one _) ?_; rw [World.setRow_alloc_new]; generalize World.alloc w3 _ = w4 at *; generalize w3.heap.size = gk at *)
  have hc1 := rt_cell (r := ⟨m, c, s, wd, g⟩) HG.out 1
  have hc2 := rt_cell (r := ⟨m, c, s, wd, g⟩) HG.out 2
  have hc3 := rt_cell (r := ⟨m, c, s, wd, g⟩) HG.out 3
  have hc4 := rt_cell (r := ⟨m, c, s, wd, g⟩) HG.out 4
  have k0 := kc_cell HK.out 0 (by omega)
  have k1 := kc_cell HK.out 1 (by omega)
  have k2 := kc_cell HK.out 2 (by omega)
  have k3 := kc_cell HK.out 3 (by omega)
  clear HG HK hC
  dsimp only [Rt.arr] at hc1 hc2 hc3 hc4 HV
  simp only [List.getElem?_toArray, List.getElem?_cons_zero, List.getElem?_cons_succ] at hc1 hc2 hc3 hc4
  generalize kI m 0 = q0 at *
  generalize kI m 1 = q1 at *
  generalize kI m 2 = q2 at *
  generalize kI m 3 = q3 at *
  cases e1 : withB c q0
  · have HE := Lib.hid (show false = validR ⟨m, c, s, wd, g⟩ by rw [HV.out, e1]; simp)
    clear HV
    go_quiet ((first | (go_at_call 28; exact Calls.quiet_of_same ((within_any _ _ _).mono fun e w' h => ⟨h.1, h.2.symm⟩)) | (go_at_call 29; exact Calls.quiet_of_same ((place_any _ _).mono fun e w' h => ⟨h.1, h.2.symm⟩))))
    go_wp2
    go_ret
    exact ⟨ret_bool (by first | rfl | (rw [HE.out])), below_drewN HB.out _⟩
  cases e2 : decide (1 ≤ s)
  · have HE := Lib.hid (show false = validR ⟨m, c, s, wd, g⟩ by rw [HV.out, e1, e2]; simp)
    clear HV
    go_quiet ((first | (go_at_call 28; exact Calls.quiet_of_same ((within_any _ _ _).mono fun e w' h => ⟨h.1, h.2.symm⟩)) | (go_at_call 29; exact Calls.quiet_of_same ((place_any _ _).mono fun e w' h => ⟨h.1, h.2.symm⟩))))
    go_wp2
    go_ret
    exact ⟨ret_bool (by first | rfl | (rw [HE.out])), below_drewN HB.out _⟩
  cases e3 : decide (s ≤ q1)
  · have HE := Lib.hid (show false = validR ⟨m, c, s, wd, g⟩ by rw [HV.out, e1, e2, e3]; simp)
    clear HV
    go_quiet ((first | (go_at_call 28; exact Calls.quiet_of_same ((within_any _ _ _).mono fun e w' h => ⟨h.1, h.2.symm⟩)) | (go_at_call 29; exact Calls.quiet_of_same ((place_any _ _).mono fun e w' h => ⟨h.1, h.2.symm⟩))))
    go_wp2
    go_ret
    exact ⟨ret_bool (by first | rfl | (rw [HE.out])), below_drewN HB.out _⟩
  cases e4 : withB (wid wd) q2
  · have HE := Lib.hid (show false = validR ⟨m, c, s, wd, g⟩ by rw [HV.out, e1, e2, e3, e4]; simp)
    clear HV
    go_quiet ((first | (go_at_call 28; exact Calls.quiet_of_same ((within_any _ _ _).mono fun e w' h => ⟨h.1, h.2.symm⟩)) | (go_at_call 29; exact Calls.quiet_of_same ((place_any _ _).mono fun e w' h => ⟨h.1, h.2.symm⟩))))
    go_wp2
    go_ret
    exact ⟨ret_bool (by first | rfl | (rw [HE.out])), below_drewN HB.out _⟩
  have HE := Lib.hid (show withB g q3 = validR ⟨m, c, s, wd, g⟩ by rw [HV.out, e1, e2, e3, e4]; rfl)
  clear HV
  go_quiet ((first | (go_at_call 28; exact Calls.quiet_of_same ((within_any _ _ _).mono fun e w' h => ⟨h.1, h.2.symm⟩)) | (go_at_call 29; exact Calls.quiet_of_same ((place_any _ _).mono fun e w' h => ⟨h.1, h.2.symm⟩))))
  go_wp2
  go_ret
  exact ⟨ret_bool (by first | rfl | (rw [HE.out])), below_drewN HB.out _⟩
end Go.Proofs.YtlkoleannlpflaaDoor
