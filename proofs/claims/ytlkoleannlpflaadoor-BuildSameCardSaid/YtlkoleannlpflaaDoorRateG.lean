/-
  CONTRACTS of the reference's Bits: each in one, of whatever rate.
-/
import Derived.Test.YtlkoleannlpflaaDoorRateE
namespace Go.Proofs.YtlkoleannlpflaaDoor
open Go.ChangeShapes Go.WideShapes Go.ChangeAt Go.RowKit
set_option linter.unusedVariables false
set_option linter.unusedSimpArgs false

theorem refwidth_20 (w : World) : Calls Tryd.prog 30 #[.int .i64 20] w fun e w' => e = .returned (.int .i64 0) ∧ w = w' := refwidth_any 20 w
theorem refwidth_40 (w : World) : Calls Tryd.prog 30 #[.int .i64 40] w fun e w' => e = .returned (.int .i64 1) ∧ w = w' := refwidth_any 40 w
theorem refwidth_80 (w : World) : Calls Tryd.prog 30 #[.int .i64 80] w fun e w' => e = .returned (.int .i64 2) ∧ w = w' := refwidth_any 80 w
theorem refwidth_160 (w : World) : Calls Tryd.prog 30 #[.int .i64 160] w fun e w' => e = .returned (.int .i64 3) ∧ w = w' := refwidth_any 160 w
theorem num_in : ∀ n : Nat, n < 12 → (1 ≤ perR n ∧ perR n ≤ 10) ∧ (1 ≤ upR n ∧ upR n ≤ 5) ∧ (2 ≤ downR n ∧ downR n ≤ 6) := by decide +kernel
theorem per_at : ∀ n : Nat, n < 12 → ∀ h, ([.int .i64 1, .int .i64 2, .int .i64 2, .int .i64 4, .int .i64 4, .int .i64 6, .int .i64 6, .int .i64 6, .int .i64 8, .int .i64 8, .int .i64 10, .int .i64 10] : List Value)[n]'h = .int .i64 (perR n) := by
  intro n hn
  match n, hn with
  | 0, _ | 1, _ | 2, _ | 3, _ | 4, _ | 5, _ | 6, _ | 7, _ | 8, _ | 9, _ | 10, _ | 11, _ => exact fun _ => rfl
theorem up_at : ∀ n : Nat, n < 12 → ∀ h, ([.int .i64 1, .int .i64 1, .int .i64 3, .int .i64 1, .int .i64 3, .int .i64 2, .int .i64 3, .int .i64 5, .int .i64 3, .int .i64 5, .int .i64 3, .int .i64 5] : List Value)[n]'h = .int .i64 (upR n) := by
  intro n hn
  match n, hn with
  | 0, _ | 1, _ | 2, _ | 3, _ | 4, _ | 5, _ | 6, _ | 7, _ | 8, _ | 9, _ | 10, _ | 11, _ => exact fun _ => rfl
theorem down_at : ∀ n : Nat, n < 12 → ∀ h, ([.int .i64 2, .int .i64 2, .int .i64 4, .int .i64 2, .int .i64 4, .int .i64 3, .int .i64 4, .int .i64 6, .int .i64 4, .int .i64 6, .int .i64 4, .int .i64 6] : List Value)[n]'h = .int .i64 (downR n) := by
  intro n hn
  match n, hn with
  | 0, _ | 1, _ | 2, _ | 3, _ | 4, _ | 5, _ | 6, _ | 7, _ | 8, _ | 9, _ | 10, _ | 11, _ => exact fun _ => rfl
set_option maxRecDepth 100000 in
set_option maxHeartbeats 8000000 in
theorem refbits_any (r : Rt) (w : World) (hs : -9223372036854775808 ≤ r.s ∧ r.s ≤ 9223372036854775807) :
    Calls Tryd.prog 24 #[r.val] w fun e w' => e = .returned (.int .i64 (bitsR r)) ∧ Below w.heap.size w w' := by
  have HB := Lib.hid ((Below.refl w.heap.size w).alloc (Nat.le_refl _) (.cells r.arr 23))
  have HG := Lib.hid (heap_alloc_last w (.cells r.arr 23))
  go_enter Tryd.func24, Tryd.ntmps24
  go_wp2_with (fail)
  generalize World.alloc w _ = w2 at *
  refine (refvalid_any r w2 hs).mono ?_
  rintro e w3 ⟨rfl, hB⟩
  have T0 := Lib.hid (HB.out.trans (hB.mono HB.out.size))
  have T1 := Lib.hid ((hB.block _ (lt_blk HG.out)).trans HG.out)
  clear hB HB HG hs
  have HB := T0
  have HG := T1
  clear T0 T1
  cases hv : validR r
  · have HE := Lib.hid (bits_no hv)
    clear hv
    go_wp2
    go_ret
    exact ⟨ret_int HE.out.symm, HB.out⟩
  obtain ⟨m, c, s, wd, g⟩ := r
  have hm : m = 1 ∨ m = 2 ∨ m = 3 ∨ m = 4 := valid_mode hv
  rcases hm with rfl | rfl | rfl | rfl
  · obtain ⟨hc, hs, hw, -⟩ := valid_1 hv rfl
    have HE := Lib.hid (bits_at hv)
    clear hv
    dsimp only at hc hs hw HE
    rcases (by omega : c = 0 ∨ c = 1 ∨ c = 2 ∨ c = 3 ∨ c = 4 ∨ c = 5 ∨ c = 6 ∨ c = 7) with rfl | rfl | rfl | rfl | rfl | rfl | rfl | rfl
    · have hs0 : w3.cell? ⟨w.heap.size, 0, none⟩ = some (.int .i64 (1)) := rt_cell HG.out 0
      have hs1 : w3.cell? ⟨w.heap.size, 1, none⟩ = some (.int .i64 (0)) := rt_cell HG.out 1
      have ho0_1 := fun (o0 : Obj) => (alloc_old hs0 o0)
      have ho1_1 := fun (o0 : Obj) => (alloc_old hs1 o0)
      go_wp2
      go_ret
      exact ⟨ret_int (by rw [HE.out]; rfl), HB.out.alloc HB.out.size _⟩
    · have hs0 : w3.cell? ⟨w.heap.size, 0, none⟩ = some (.int .i64 (1)) := rt_cell HG.out 0
      have hs1 : w3.cell? ⟨w.heap.size, 1, none⟩ = some (.int .i64 (1)) := rt_cell HG.out 1
      have ho0_1 := fun (o0 : Obj) => (alloc_old hs0 o0)
      have ho1_1 := fun (o0 : Obj) => (alloc_old hs1 o0)
      go_wp2
      go_ret
      exact ⟨ret_int (by rw [HE.out]; rfl), HB.out.alloc HB.out.size _⟩
    · have hs0 : w3.cell? ⟨w.heap.size, 0, none⟩ = some (.int .i64 (1)) := rt_cell HG.out 0
      have hs1 : w3.cell? ⟨w.heap.size, 1, none⟩ = some (.int .i64 (2)) := rt_cell HG.out 1
      have ho0_1 := fun (o0 : Obj) => (alloc_old hs0 o0)
      have ho1_1 := fun (o0 : Obj) => (alloc_old hs1 o0)
      go_wp2
      go_ret
      exact ⟨ret_int (by rw [HE.out]; rfl), HB.out.alloc HB.out.size _⟩
    · have hs0 : w3.cell? ⟨w.heap.size, 0, none⟩ = some (.int .i64 (1)) := rt_cell HG.out 0
      have hs1 : w3.cell? ⟨w.heap.size, 1, none⟩ = some (.int .i64 (3)) := rt_cell HG.out 1
      have ho0_1 := fun (o0 : Obj) => (alloc_old hs0 o0)
      have ho1_1 := fun (o0 : Obj) => (alloc_old hs1 o0)
      go_wp2
      go_ret
      exact ⟨ret_int (by rw [HE.out]; rfl), HB.out.alloc HB.out.size _⟩
    · have hs0 : w3.cell? ⟨w.heap.size, 0, none⟩ = some (.int .i64 (1)) := rt_cell HG.out 0
      have hs1 : w3.cell? ⟨w.heap.size, 1, none⟩ = some (.int .i64 (4)) := rt_cell HG.out 1
      have ho0_1 := fun (o0 : Obj) => (alloc_old hs0 o0)
      have ho1_1 := fun (o0 : Obj) => (alloc_old hs1 o0)
      go_wp2
      go_ret
      exact ⟨ret_int (by rw [HE.out]; rfl), HB.out.alloc HB.out.size _⟩
    · have hs0 : w3.cell? ⟨w.heap.size, 0, none⟩ = some (.int .i64 (1)) := rt_cell HG.out 0
      have hs1 : w3.cell? ⟨w.heap.size, 1, none⟩ = some (.int .i64 (5)) := rt_cell HG.out 1
      have ho0_1 := fun (o0 : Obj) => (alloc_old hs0 o0)
      have ho1_1 := fun (o0 : Obj) => (alloc_old hs1 o0)
      go_wp2
      go_ret
      exact ⟨ret_int (by rw [HE.out]; rfl), HB.out.alloc HB.out.size _⟩
    · have hs0 : w3.cell? ⟨w.heap.size, 0, none⟩ = some (.int .i64 (1)) := rt_cell HG.out 0
      have hs1 : w3.cell? ⟨w.heap.size, 1, none⟩ = some (.int .i64 (6)) := rt_cell HG.out 1
      have ho0_1 := fun (o0 : Obj) => (alloc_old hs0 o0)
      have ho1_1 := fun (o0 : Obj) => (alloc_old hs1 o0)
      go_wp2
      go_ret
      exact ⟨ret_int (by rw [HE.out]; rfl), HB.out.alloc HB.out.size _⟩
    · have hs0 : w3.cell? ⟨w.heap.size, 0, none⟩ = some (.int .i64 (1)) := rt_cell HG.out 0
      have hs1 : w3.cell? ⟨w.heap.size, 1, none⟩ = some (.int .i64 (7)) := rt_cell HG.out 1
      have ho0_1 := fun (o0 : Obj) => (alloc_old hs0 o0)
      have ho1_1 := fun (o0 : Obj) => (alloc_old hs1 o0)
      go_wp2
      go_ret
      exact ⟨ret_int (by rw [HE.out]; rfl), HB.out.alloc HB.out.size _⟩
  · obtain ⟨hc, hs, hw, -⟩ := valid_2 hv rfl
    have HE := Lib.hid (bits_at hv)
    clear hv
    dsimp only at hc hs hw HE
    obtain ⟨n, rfl⟩ := Int.eq_ofNat_of_zero_le hc.1
    have hn : n < 12 := by omega
    have hn' : (n : Int) < 12 := by omega
    have hq := num_in n hn
    have Hper := Lib.hid (show ∀ h, ([.int .i64 1, .int .i64 2, .int .i64 2, .int .i64 4, .int .i64 4, .int .i64 6, .int .i64 6, .int .i64 6, .int .i64 8, .int .i64 8, .int .i64 10, .int .i64 10] : List Value)[n]'h = .int .i64 (perR (n : Int)) from per_at n hn)
    have Hup := Lib.hid (show ∀ h, ([.int .i64 1, .int .i64 1, .int .i64 3, .int .i64 1, .int .i64 3, .int .i64 2, .int .i64 3, .int .i64 5, .int .i64 3, .int .i64 5, .int .i64 3, .int .i64 5] : List Value)[n]'h = .int .i64 (upR (n : Int)) from up_at n hn)
    have Hdown := Lib.hid (show ∀ h, ([.int .i64 2, .int .i64 2, .int .i64 4, .int .i64 2, .int .i64 4, .int .i64 3, .int .i64 4, .int .i64 6, .int .i64 4, .int .i64 6, .int .i64 4, .int .i64 6] : List Value)[n]'h = .int .i64 (downR (n : Int)) from down_at n hn)
    clear hc
    generalize perR (n : Int) = p at *
    generalize upR (n : Int) = u at *
    generalize downR (n : Int) = dn at *
    have hp1 := Hper.out
    have hp2 := Hup.out
    have hp3 := Hdown.out
    clear Hper Hup Hdown
    rcases hw with rfl | rfl
    · have HV := Lib.hid (show 52 * p * s * u / dn = bitsR ⟨2, (n : Int), s, 20, g⟩ by rw [HE.out]; rfl)
      clear HE
      have hs0 : w3.cell? ⟨w.heap.size, 0, none⟩ = some (.int .i64 (2)) := rt_cell HG.out 0
      have hs1 : w3.cell? ⟨w.heap.size, 1, none⟩ = some (.int .i64 ((n : Int))) := rt_cell HG.out 1
      have hs2 : w3.cell? ⟨w.heap.size, 2, none⟩ = some (.int .i64 (s)) := rt_cell HG.out 2
      have hs3 : w3.cell? ⟨w.heap.size, 3, none⟩ = some (.int .i64 (20)) := rt_cell HG.out 3
      have ho0_1 := fun (o0 : Obj) => (alloc_old hs0 o0)
      have ho0_2 := fun (o0 o1 : Obj) => (alloc_old (alloc_old hs0 o0) o1)
      have ho0_3 := fun (o0 o1 o2 : Obj) => (alloc_old (alloc_old (alloc_old hs0 o0) o1) o2)
      have ho0_4 := fun (o0 o1 o2 o3 : Obj) => (alloc_old (alloc_old (alloc_old (alloc_old hs0 o0) o1) o2) o3)
      have ho1_1 := fun (o0 : Obj) => (alloc_old hs1 o0)
      have ho1_2 := fun (o0 o1 : Obj) => (alloc_old (alloc_old hs1 o0) o1)
      have ho1_3 := fun (o0 o1 o2 : Obj) => (alloc_old (alloc_old (alloc_old hs1 o0) o1) o2)
      have ho1_4 := fun (o0 o1 o2 o3 : Obj) => (alloc_old (alloc_old (alloc_old (alloc_old hs1 o0) o1) o2) o3)
      have ho2_1 := fun (o0 : Obj) => (alloc_old hs2 o0)
      have ho2_2 := fun (o0 o1 : Obj) => (alloc_old (alloc_old hs2 o0) o1)
      have ho2_3 := fun (o0 o1 o2 : Obj) => (alloc_old (alloc_old (alloc_old hs2 o0) o1) o2)
      have ho2_4 := fun (o0 o1 o2 o3 : Obj) => (alloc_old (alloc_old (alloc_old (alloc_old hs2 o0) o1) o2) o3)
      have ho3_1 := fun (o0 : Obj) => (alloc_old hs3 o0)
      have ho3_2 := fun (o0 o1 : Obj) => (alloc_old (alloc_old hs3 o0) o1)
      have ho3_3 := fun (o0 o1 o2 : Obj) => (alloc_old (alloc_old (alloc_old hs3 o0) o1) o2)
      have ho3_4 := fun (o0 o1 o2 o3 : Obj) => (alloc_old (alloc_old (alloc_old (alloc_old hs3 o0) o1) o2) o3)
      have b1 := prod_in (a := 52 * p) (b := s) (A := 520) (B := 8) (by omega) (by omega) (by omega) (by omega)
      have b2 := prod_in (a := 52 * p * s) (b := u) (A := 4160) (B := 5) (by omega) (by omega) (by omega) (by omega)
      go_wp2_with (go_at_call 30; refine (refwidth_20 _).mono ?_; rintro e w' ⟨rfl, rfl⟩)
      go_ret
      exact ⟨ret_int HV.out, (by repeat (first | exact HB.out | refine Below.alloc ?_ (by first | exact HB.out.size | (simp; have := HB.out.size; omega)) _))⟩
    · have HV := Lib.hid (show 108 * p * s * u / dn = bitsR ⟨2, (n : Int), s, 40, g⟩ by rw [HE.out]; rfl)
      clear HE
      have hs0 : w3.cell? ⟨w.heap.size, 0, none⟩ = some (.int .i64 (2)) := rt_cell HG.out 0
      have hs1 : w3.cell? ⟨w.heap.size, 1, none⟩ = some (.int .i64 ((n : Int))) := rt_cell HG.out 1
      have hs2 : w3.cell? ⟨w.heap.size, 2, none⟩ = some (.int .i64 (s)) := rt_cell HG.out 2
      have hs3 : w3.cell? ⟨w.heap.size, 3, none⟩ = some (.int .i64 (40)) := rt_cell HG.out 3
      have ho0_1 := fun (o0 : Obj) => (alloc_old hs0 o0)
      have ho0_2 := fun (o0 o1 : Obj) => (alloc_old (alloc_old hs0 o0) o1)
      have ho0_3 := fun (o0 o1 o2 : Obj) => (alloc_old (alloc_old (alloc_old hs0 o0) o1) o2)
      have ho0_4 := fun (o0 o1 o2 o3 : Obj) => (alloc_old (alloc_old (alloc_old (alloc_old hs0 o0) o1) o2) o3)
      have ho1_1 := fun (o0 : Obj) => (alloc_old hs1 o0)
      have ho1_2 := fun (o0 o1 : Obj) => (alloc_old (alloc_old hs1 o0) o1)
      have ho1_3 := fun (o0 o1 o2 : Obj) => (alloc_old (alloc_old (alloc_old hs1 o0) o1) o2)
      have ho1_4 := fun (o0 o1 o2 o3 : Obj) => (alloc_old (alloc_old (alloc_old (alloc_old hs1 o0) o1) o2) o3)
      have ho2_1 := fun (o0 : Obj) => (alloc_old hs2 o0)
      have ho2_2 := fun (o0 o1 : Obj) => (alloc_old (alloc_old hs2 o0) o1)
      have ho2_3 := fun (o0 o1 o2 : Obj) => (alloc_old (alloc_old (alloc_old hs2 o0) o1) o2)
      have ho2_4 := fun (o0 o1 o2 o3 : Obj) => (alloc_old (alloc_old (alloc_old (alloc_old hs2 o0) o1) o2) o3)
      have ho3_1 := fun (o0 : Obj) => (alloc_old hs3 o0)
      have ho3_2 := fun (o0 o1 : Obj) => (alloc_old (alloc_old hs3 o0) o1)
      have ho3_3 := fun (o0 o1 o2 : Obj) => (alloc_old (alloc_old (alloc_old hs3 o0) o1) o2)
      have ho3_4 := fun (o0 o1 o2 o3 : Obj) => (alloc_old (alloc_old (alloc_old (alloc_old hs3 o0) o1) o2) o3)
      have b1 := prod_in (a := 108 * p) (b := s) (A := 1080) (B := 8) (by omega) (by omega) (by omega) (by omega)
      have b2 := prod_in (a := 108 * p * s) (b := u) (A := 8640) (B := 5) (by omega) (by omega) (by omega) (by omega)
      go_wp2_with (go_at_call 30; refine (refwidth_40 _).mono ?_; rintro e w' ⟨rfl, rfl⟩)
      go_ret
      exact ⟨ret_int HV.out, (by repeat (first | exact HB.out | refine Below.alloc ?_ (by first | exact HB.out.size | (simp; have := HB.out.size; omega)) _))⟩
  · obtain ⟨hc, hs, hw, -⟩ := valid_3 hv rfl
    have HE := Lib.hid (bits_at hv)
    clear hv
    dsimp only at hc hs hw HE
    obtain ⟨n, rfl⟩ := Int.eq_ofNat_of_zero_le hc.1
    have hn : n < 12 := by omega
    have hn' : (n : Int) < 12 := by omega
    have hq := num_in n hn
    have Hper := Lib.hid (show ∀ h, ([.int .i64 1, .int .i64 2, .int .i64 2, .int .i64 4, .int .i64 4, .int .i64 6, .int .i64 6, .int .i64 6, .int .i64 8, .int .i64 8, .int .i64 10, .int .i64 10] : List Value)[n]'h = .int .i64 (perR (n : Int)) from per_at n hn)
    have Hup := Lib.hid (show ∀ h, ([.int .i64 1, .int .i64 1, .int .i64 3, .int .i64 1, .int .i64 3, .int .i64 2, .int .i64 3, .int .i64 5, .int .i64 3, .int .i64 5, .int .i64 3, .int .i64 5] : List Value)[n]'h = .int .i64 (upR (n : Int)) from up_at n hn)
    have Hdown := Lib.hid (show ∀ h, ([.int .i64 2, .int .i64 2, .int .i64 4, .int .i64 2, .int .i64 4, .int .i64 3, .int .i64 4, .int .i64 6, .int .i64 4, .int .i64 6, .int .i64 4, .int .i64 6] : List Value)[n]'h = .int .i64 (downR (n : Int)) from down_at n hn)
    clear hc
    generalize perR (n : Int) = p at *
    generalize upR (n : Int) = u at *
    generalize downR (n : Int) = dn at *
    have hp1 := Hper.out
    have hp2 := Hup.out
    have hp3 := Hdown.out
    clear Hper Hup Hdown
    rcases hw with rfl | rfl | rfl | rfl
    · have HV := Lib.hid (show 52 * p * s * u / dn = bitsR ⟨3, (n : Int), s, 20, g⟩ by rw [HE.out]; rfl)
      clear HE
      have hs0 : w3.cell? ⟨w.heap.size, 0, none⟩ = some (.int .i64 (3)) := rt_cell HG.out 0
      have hs1 : w3.cell? ⟨w.heap.size, 1, none⟩ = some (.int .i64 ((n : Int))) := rt_cell HG.out 1
      have hs2 : w3.cell? ⟨w.heap.size, 2, none⟩ = some (.int .i64 (s)) := rt_cell HG.out 2
      have hs3 : w3.cell? ⟨w.heap.size, 3, none⟩ = some (.int .i64 (20)) := rt_cell HG.out 3
      have ho0_1 := fun (o0 : Obj) => (alloc_old hs0 o0)
      have ho0_2 := fun (o0 o1 : Obj) => (alloc_old (alloc_old hs0 o0) o1)
      have ho0_3 := fun (o0 o1 o2 : Obj) => (alloc_old (alloc_old (alloc_old hs0 o0) o1) o2)
      have ho0_4 := fun (o0 o1 o2 o3 : Obj) => (alloc_old (alloc_old (alloc_old (alloc_old hs0 o0) o1) o2) o3)
      have ho1_1 := fun (o0 : Obj) => (alloc_old hs1 o0)
      have ho1_2 := fun (o0 o1 : Obj) => (alloc_old (alloc_old hs1 o0) o1)
      have ho1_3 := fun (o0 o1 o2 : Obj) => (alloc_old (alloc_old (alloc_old hs1 o0) o1) o2)
      have ho1_4 := fun (o0 o1 o2 o3 : Obj) => (alloc_old (alloc_old (alloc_old (alloc_old hs1 o0) o1) o2) o3)
      have ho2_1 := fun (o0 : Obj) => (alloc_old hs2 o0)
      have ho2_2 := fun (o0 o1 : Obj) => (alloc_old (alloc_old hs2 o0) o1)
      have ho2_3 := fun (o0 o1 o2 : Obj) => (alloc_old (alloc_old (alloc_old hs2 o0) o1) o2)
      have ho2_4 := fun (o0 o1 o2 o3 : Obj) => (alloc_old (alloc_old (alloc_old (alloc_old hs2 o0) o1) o2) o3)
      have ho3_1 := fun (o0 : Obj) => (alloc_old hs3 o0)
      have ho3_2 := fun (o0 o1 : Obj) => (alloc_old (alloc_old hs3 o0) o1)
      have ho3_3 := fun (o0 o1 o2 : Obj) => (alloc_old (alloc_old (alloc_old hs3 o0) o1) o2)
      have ho3_4 := fun (o0 o1 o2 o3 : Obj) => (alloc_old (alloc_old (alloc_old (alloc_old hs3 o0) o1) o2) o3)
      have b1 := prod_in (a := 52 * p) (b := s) (A := 520) (B := 8) (by omega) (by omega) (by omega) (by omega)
      have b2 := prod_in (a := 52 * p * s) (b := u) (A := 4160) (B := 5) (by omega) (by omega) (by omega) (by omega)
      go_wp2_with (go_at_call 30; refine (refwidth_20 _).mono ?_; rintro e w' ⟨rfl, rfl⟩)
      go_ret
      exact ⟨ret_int HV.out, (by repeat (first | exact HB.out | refine Below.alloc ?_ (by first | exact HB.out.size | (simp; have := HB.out.size; omega)) _))⟩
    · have HV := Lib.hid (show 108 * p * s * u / dn = bitsR ⟨3, (n : Int), s, 40, g⟩ by rw [HE.out]; rfl)
      clear HE
      have hs0 : w3.cell? ⟨w.heap.size, 0, none⟩ = some (.int .i64 (3)) := rt_cell HG.out 0
      have hs1 : w3.cell? ⟨w.heap.size, 1, none⟩ = some (.int .i64 ((n : Int))) := rt_cell HG.out 1
      have hs2 : w3.cell? ⟨w.heap.size, 2, none⟩ = some (.int .i64 (s)) := rt_cell HG.out 2
      have hs3 : w3.cell? ⟨w.heap.size, 3, none⟩ = some (.int .i64 (40)) := rt_cell HG.out 3
      have ho0_1 := fun (o0 : Obj) => (alloc_old hs0 o0)
      have ho0_2 := fun (o0 o1 : Obj) => (alloc_old (alloc_old hs0 o0) o1)
      have ho0_3 := fun (o0 o1 o2 : Obj) => (alloc_old (alloc_old (alloc_old hs0 o0) o1) o2)
      have ho0_4 := fun (o0 o1 o2 o3 : Obj) => (alloc_old (alloc_old (alloc_old (alloc_old hs0 o0) o1) o2) o3)
      have ho1_1 := fun (o0 : Obj) => (alloc_old hs1 o0)
      have ho1_2 := fun (o0 o1 : Obj) => (alloc_old (alloc_old hs1 o0) o1)
      have ho1_3 := fun (o0 o1 o2 : Obj) => (alloc_old (alloc_old (alloc_old hs1 o0) o1) o2)
      have ho1_4 := fun (o0 o1 o2 o3 : Obj) => (alloc_old (alloc_old (alloc_old (alloc_old hs1 o0) o1) o2) o3)
      have ho2_1 := fun (o0 : Obj) => (alloc_old hs2 o0)
      have ho2_2 := fun (o0 o1 : Obj) => (alloc_old (alloc_old hs2 o0) o1)
      have ho2_3 := fun (o0 o1 o2 : Obj) => (alloc_old (alloc_old (alloc_old hs2 o0) o1) o2)
      have ho2_4 := fun (o0 o1 o2 o3 : Obj) => (alloc_old (alloc_old (alloc_old (alloc_old hs2 o0) o1) o2) o3)
      have ho3_1 := fun (o0 : Obj) => (alloc_old hs3 o0)
      have ho3_2 := fun (o0 o1 : Obj) => (alloc_old (alloc_old hs3 o0) o1)
      have ho3_3 := fun (o0 o1 o2 : Obj) => (alloc_old (alloc_old (alloc_old hs3 o0) o1) o2)
      have ho3_4 := fun (o0 o1 o2 o3 : Obj) => (alloc_old (alloc_old (alloc_old (alloc_old hs3 o0) o1) o2) o3)
      have b1 := prod_in (a := 108 * p) (b := s) (A := 1080) (B := 8) (by omega) (by omega) (by omega) (by omega)
      have b2 := prod_in (a := 108 * p * s) (b := u) (A := 8640) (B := 5) (by omega) (by omega) (by omega) (by omega)
      go_wp2_with (go_at_call 30; refine (refwidth_40 _).mono ?_; rintro e w' ⟨rfl, rfl⟩)
      go_ret
      exact ⟨ret_int HV.out, (by repeat (first | exact HB.out | refine Below.alloc ?_ (by first | exact HB.out.size | (simp; have := HB.out.size; omega)) _))⟩
    · have HV := Lib.hid (show 234 * p * s * u / dn = bitsR ⟨3, (n : Int), s, 80, g⟩ by rw [HE.out]; rfl)
      clear HE
      have hs0 : w3.cell? ⟨w.heap.size, 0, none⟩ = some (.int .i64 (3)) := rt_cell HG.out 0
      have hs1 : w3.cell? ⟨w.heap.size, 1, none⟩ = some (.int .i64 ((n : Int))) := rt_cell HG.out 1
      have hs2 : w3.cell? ⟨w.heap.size, 2, none⟩ = some (.int .i64 (s)) := rt_cell HG.out 2
      have hs3 : w3.cell? ⟨w.heap.size, 3, none⟩ = some (.int .i64 (80)) := rt_cell HG.out 3
      have ho0_1 := fun (o0 : Obj) => (alloc_old hs0 o0)
      have ho0_2 := fun (o0 o1 : Obj) => (alloc_old (alloc_old hs0 o0) o1)
      have ho0_3 := fun (o0 o1 o2 : Obj) => (alloc_old (alloc_old (alloc_old hs0 o0) o1) o2)
      have ho0_4 := fun (o0 o1 o2 o3 : Obj) => (alloc_old (alloc_old (alloc_old (alloc_old hs0 o0) o1) o2) o3)
      have ho1_1 := fun (o0 : Obj) => (alloc_old hs1 o0)
      have ho1_2 := fun (o0 o1 : Obj) => (alloc_old (alloc_old hs1 o0) o1)
      have ho1_3 := fun (o0 o1 o2 : Obj) => (alloc_old (alloc_old (alloc_old hs1 o0) o1) o2)
      have ho1_4 := fun (o0 o1 o2 o3 : Obj) => (alloc_old (alloc_old (alloc_old (alloc_old hs1 o0) o1) o2) o3)
      have ho2_1 := fun (o0 : Obj) => (alloc_old hs2 o0)
      have ho2_2 := fun (o0 o1 : Obj) => (alloc_old (alloc_old hs2 o0) o1)
      have ho2_3 := fun (o0 o1 o2 : Obj) => (alloc_old (alloc_old (alloc_old hs2 o0) o1) o2)
      have ho2_4 := fun (o0 o1 o2 o3 : Obj) => (alloc_old (alloc_old (alloc_old (alloc_old hs2 o0) o1) o2) o3)
      have ho3_1 := fun (o0 : Obj) => (alloc_old hs3 o0)
      have ho3_2 := fun (o0 o1 : Obj) => (alloc_old (alloc_old hs3 o0) o1)
      have ho3_3 := fun (o0 o1 o2 : Obj) => (alloc_old (alloc_old (alloc_old hs3 o0) o1) o2)
      have ho3_4 := fun (o0 o1 o2 o3 : Obj) => (alloc_old (alloc_old (alloc_old (alloc_old hs3 o0) o1) o2) o3)
      have b1 := prod_in (a := 234 * p) (b := s) (A := 2340) (B := 8) (by omega) (by omega) (by omega) (by omega)
      have b2 := prod_in (a := 234 * p * s) (b := u) (A := 18720) (B := 5) (by omega) (by omega) (by omega) (by omega)
      go_wp2_with (go_at_call 30; refine (refwidth_80 _).mono ?_; rintro e w' ⟨rfl, rfl⟩)
      go_ret
      exact ⟨ret_int HV.out, (by repeat (first | exact HB.out | refine Below.alloc ?_ (by first | exact HB.out.size | (simp; have := HB.out.size; omega)) _))⟩
    · have HV := Lib.hid (show 468 * p * s * u / dn = bitsR ⟨3, (n : Int), s, 160, g⟩ by rw [HE.out]; rfl)
      clear HE
      have hs0 : w3.cell? ⟨w.heap.size, 0, none⟩ = some (.int .i64 (3)) := rt_cell HG.out 0
      have hs1 : w3.cell? ⟨w.heap.size, 1, none⟩ = some (.int .i64 ((n : Int))) := rt_cell HG.out 1
      have hs2 : w3.cell? ⟨w.heap.size, 2, none⟩ = some (.int .i64 (s)) := rt_cell HG.out 2
      have hs3 : w3.cell? ⟨w.heap.size, 3, none⟩ = some (.int .i64 (160)) := rt_cell HG.out 3
      have ho0_1 := fun (o0 : Obj) => (alloc_old hs0 o0)
      have ho0_2 := fun (o0 o1 : Obj) => (alloc_old (alloc_old hs0 o0) o1)
      have ho0_3 := fun (o0 o1 o2 : Obj) => (alloc_old (alloc_old (alloc_old hs0 o0) o1) o2)
      have ho0_4 := fun (o0 o1 o2 o3 : Obj) => (alloc_old (alloc_old (alloc_old (alloc_old hs0 o0) o1) o2) o3)
      have ho1_1 := fun (o0 : Obj) => (alloc_old hs1 o0)
      have ho1_2 := fun (o0 o1 : Obj) => (alloc_old (alloc_old hs1 o0) o1)
      have ho1_3 := fun (o0 o1 o2 : Obj) => (alloc_old (alloc_old (alloc_old hs1 o0) o1) o2)
      have ho1_4 := fun (o0 o1 o2 o3 : Obj) => (alloc_old (alloc_old (alloc_old (alloc_old hs1 o0) o1) o2) o3)
      have ho2_1 := fun (o0 : Obj) => (alloc_old hs2 o0)
      have ho2_2 := fun (o0 o1 : Obj) => (alloc_old (alloc_old hs2 o0) o1)
      have ho2_3 := fun (o0 o1 o2 : Obj) => (alloc_old (alloc_old (alloc_old hs2 o0) o1) o2)
      have ho2_4 := fun (o0 o1 o2 o3 : Obj) => (alloc_old (alloc_old (alloc_old (alloc_old hs2 o0) o1) o2) o3)
      have ho3_1 := fun (o0 : Obj) => (alloc_old hs3 o0)
      have ho3_2 := fun (o0 o1 : Obj) => (alloc_old (alloc_old hs3 o0) o1)
      have ho3_3 := fun (o0 o1 o2 : Obj) => (alloc_old (alloc_old (alloc_old hs3 o0) o1) o2)
      have ho3_4 := fun (o0 o1 o2 o3 : Obj) => (alloc_old (alloc_old (alloc_old (alloc_old hs3 o0) o1) o2) o3)
      have b1 := prod_in (a := 468 * p) (b := s) (A := 4680) (B := 8) (by omega) (by omega) (by omega) (by omega)
      have b2 := prod_in (a := 468 * p * s) (b := u) (A := 37440) (B := 5) (by omega) (by omega) (by omega) (by omega)
      go_wp2_with (go_at_call 30; refine (refwidth_160 _).mono ?_; rintro e w' ⟨rfl, rfl⟩)
      go_ret
      exact ⟨ret_int HV.out, (by repeat (first | exact HB.out | refine Below.alloc ?_ (by first | exact HB.out.size | (simp; have := HB.out.size; omega)) _))⟩
  · obtain ⟨hc, hs, hw, -⟩ := valid_4 hv rfl
    have HE := Lib.hid (bits_at hv)
    clear hv
    dsimp only at hc hs hw HE
    obtain ⟨n, rfl⟩ := Int.eq_ofNat_of_zero_le hc.1
    have hn : n < 12 := by omega
    have hn' : (n : Int) < 12 := by omega
    have hq := num_in n hn
    have Hper := Lib.hid (show ∀ h, ([.int .i64 1, .int .i64 2, .int .i64 2, .int .i64 4, .int .i64 4, .int .i64 6, .int .i64 6, .int .i64 6, .int .i64 8, .int .i64 8, .int .i64 10, .int .i64 10] : List Value)[n]'h = .int .i64 (perR (n : Int)) from per_at n hn)
    have Hup := Lib.hid (show ∀ h, ([.int .i64 1, .int .i64 1, .int .i64 3, .int .i64 1, .int .i64 3, .int .i64 2, .int .i64 3, .int .i64 5, .int .i64 3, .int .i64 5, .int .i64 3, .int .i64 5] : List Value)[n]'h = .int .i64 (upR (n : Int)) from up_at n hn)
    have Hdown := Lib.hid (show ∀ h, ([.int .i64 2, .int .i64 2, .int .i64 4, .int .i64 2, .int .i64 4, .int .i64 3, .int .i64 4, .int .i64 6, .int .i64 4, .int .i64 6, .int .i64 4, .int .i64 6] : List Value)[n]'h = .int .i64 (downR (n : Int)) from down_at n hn)
    clear hc
    generalize perR (n : Int) = p at *
    generalize upR (n : Int) = u at *
    generalize downR (n : Int) = dn at *
    have hp1 := Hper.out
    have hp2 := Hup.out
    have hp3 := Hdown.out
    clear Hper Hup Hdown
    rcases hw with rfl | rfl | rfl | rfl
    · have HV := Lib.hid (show 234 * p * s * u / dn = bitsR ⟨4, (n : Int), s, 20, g⟩ by rw [HE.out]; rfl)
      clear HE
      have hs0 : w3.cell? ⟨w.heap.size, 0, none⟩ = some (.int .i64 (4)) := rt_cell HG.out 0
      have hs1 : w3.cell? ⟨w.heap.size, 1, none⟩ = some (.int .i64 ((n : Int))) := rt_cell HG.out 1
      have hs2 : w3.cell? ⟨w.heap.size, 2, none⟩ = some (.int .i64 (s)) := rt_cell HG.out 2
      have hs3 : w3.cell? ⟨w.heap.size, 3, none⟩ = some (.int .i64 (20)) := rt_cell HG.out 3
      have ho0_1 := fun (o0 : Obj) => (alloc_old hs0 o0)
      have ho0_2 := fun (o0 o1 : Obj) => (alloc_old (alloc_old hs0 o0) o1)
      have ho0_3 := fun (o0 o1 o2 : Obj) => (alloc_old (alloc_old (alloc_old hs0 o0) o1) o2)
      have ho0_4 := fun (o0 o1 o2 o3 : Obj) => (alloc_old (alloc_old (alloc_old (alloc_old hs0 o0) o1) o2) o3)
      have ho0_5 := fun (o0 o1 o2 o3 o4 : Obj) => (alloc_old (alloc_old (alloc_old (alloc_old (alloc_old hs0 o0) o1) o2) o3) o4)
      have ho1_1 := fun (o0 : Obj) => (alloc_old hs1 o0)
      have ho1_2 := fun (o0 o1 : Obj) => (alloc_old (alloc_old hs1 o0) o1)
      have ho1_3 := fun (o0 o1 o2 : Obj) => (alloc_old (alloc_old (alloc_old hs1 o0) o1) o2)
      have ho1_4 := fun (o0 o1 o2 o3 : Obj) => (alloc_old (alloc_old (alloc_old (alloc_old hs1 o0) o1) o2) o3)
      have ho1_5 := fun (o0 o1 o2 o3 o4 : Obj) => (alloc_old (alloc_old (alloc_old (alloc_old (alloc_old hs1 o0) o1) o2) o3) o4)
      have ho2_1 := fun (o0 : Obj) => (alloc_old hs2 o0)
      have ho2_2 := fun (o0 o1 : Obj) => (alloc_old (alloc_old hs2 o0) o1)
      have ho2_3 := fun (o0 o1 o2 : Obj) => (alloc_old (alloc_old (alloc_old hs2 o0) o1) o2)
      have ho2_4 := fun (o0 o1 o2 o3 : Obj) => (alloc_old (alloc_old (alloc_old (alloc_old hs2 o0) o1) o2) o3)
      have ho2_5 := fun (o0 o1 o2 o3 o4 : Obj) => (alloc_old (alloc_old (alloc_old (alloc_old (alloc_old hs2 o0) o1) o2) o3) o4)
      have ho3_1 := fun (o0 : Obj) => (alloc_old hs3 o0)
      have ho3_2 := fun (o0 o1 : Obj) => (alloc_old (alloc_old hs3 o0) o1)
      have ho3_3 := fun (o0 o1 o2 : Obj) => (alloc_old (alloc_old (alloc_old hs3 o0) o1) o2)
      have ho3_4 := fun (o0 o1 o2 o3 : Obj) => (alloc_old (alloc_old (alloc_old (alloc_old hs3 o0) o1) o2) o3)
      have ho3_5 := fun (o0 o1 o2 o3 o4 : Obj) => (alloc_old (alloc_old (alloc_old (alloc_old (alloc_old hs3 o0) o1) o2) o3) o4)
      have b1 := prod_in (a := 234 * p) (b := s) (A := 2340) (B := 8) (by omega) (by omega) (by omega) (by omega)
      have b2 := prod_in (a := 234 * p * s) (b := u) (A := 18720) (B := 5) (by omega) (by omega) (by omega) (by omega)
      go_wp2_with (go_at_call 30; refine (refwidth_20 _).mono ?_; rintro e w' ⟨rfl, rfl⟩)
      go_ret
      exact ⟨ret_int HV.out, (by repeat (first | exact HB.out | refine Below.alloc ?_ (by first | exact HB.out.size | (simp; have := HB.out.size; omega)) _))⟩
    · have HV := Lib.hid (show 468 * p * s * u / dn = bitsR ⟨4, (n : Int), s, 40, g⟩ by rw [HE.out]; rfl)
      clear HE
      have hs0 : w3.cell? ⟨w.heap.size, 0, none⟩ = some (.int .i64 (4)) := rt_cell HG.out 0
      have hs1 : w3.cell? ⟨w.heap.size, 1, none⟩ = some (.int .i64 ((n : Int))) := rt_cell HG.out 1
      have hs2 : w3.cell? ⟨w.heap.size, 2, none⟩ = some (.int .i64 (s)) := rt_cell HG.out 2
      have hs3 : w3.cell? ⟨w.heap.size, 3, none⟩ = some (.int .i64 (40)) := rt_cell HG.out 3
      have ho0_1 := fun (o0 : Obj) => (alloc_old hs0 o0)
      have ho0_2 := fun (o0 o1 : Obj) => (alloc_old (alloc_old hs0 o0) o1)
      have ho0_3 := fun (o0 o1 o2 : Obj) => (alloc_old (alloc_old (alloc_old hs0 o0) o1) o2)
      have ho0_4 := fun (o0 o1 o2 o3 : Obj) => (alloc_old (alloc_old (alloc_old (alloc_old hs0 o0) o1) o2) o3)
      have ho0_5 := fun (o0 o1 o2 o3 o4 : Obj) => (alloc_old (alloc_old (alloc_old (alloc_old (alloc_old hs0 o0) o1) o2) o3) o4)
      have ho1_1 := fun (o0 : Obj) => (alloc_old hs1 o0)
      have ho1_2 := fun (o0 o1 : Obj) => (alloc_old (alloc_old hs1 o0) o1)
      have ho1_3 := fun (o0 o1 o2 : Obj) => (alloc_old (alloc_old (alloc_old hs1 o0) o1) o2)
      have ho1_4 := fun (o0 o1 o2 o3 : Obj) => (alloc_old (alloc_old (alloc_old (alloc_old hs1 o0) o1) o2) o3)
      have ho1_5 := fun (o0 o1 o2 o3 o4 : Obj) => (alloc_old (alloc_old (alloc_old (alloc_old (alloc_old hs1 o0) o1) o2) o3) o4)
      have ho2_1 := fun (o0 : Obj) => (alloc_old hs2 o0)
      have ho2_2 := fun (o0 o1 : Obj) => (alloc_old (alloc_old hs2 o0) o1)
      have ho2_3 := fun (o0 o1 o2 : Obj) => (alloc_old (alloc_old (alloc_old hs2 o0) o1) o2)
      have ho2_4 := fun (o0 o1 o2 o3 : Obj) => (alloc_old (alloc_old (alloc_old (alloc_old hs2 o0) o1) o2) o3)
      have ho2_5 := fun (o0 o1 o2 o3 o4 : Obj) => (alloc_old (alloc_old (alloc_old (alloc_old (alloc_old hs2 o0) o1) o2) o3) o4)
      have ho3_1 := fun (o0 : Obj) => (alloc_old hs3 o0)
      have ho3_2 := fun (o0 o1 : Obj) => (alloc_old (alloc_old hs3 o0) o1)
      have ho3_3 := fun (o0 o1 o2 : Obj) => (alloc_old (alloc_old (alloc_old hs3 o0) o1) o2)
      have ho3_4 := fun (o0 o1 o2 o3 : Obj) => (alloc_old (alloc_old (alloc_old (alloc_old hs3 o0) o1) o2) o3)
      have ho3_5 := fun (o0 o1 o2 o3 o4 : Obj) => (alloc_old (alloc_old (alloc_old (alloc_old (alloc_old hs3 o0) o1) o2) o3) o4)
      have b1 := prod_in (a := 468 * p) (b := s) (A := 4680) (B := 8) (by omega) (by omega) (by omega) (by omega)
      have b2 := prod_in (a := 468 * p * s) (b := u) (A := 37440) (B := 5) (by omega) (by omega) (by omega) (by omega)
      go_wp2_with (go_at_call 30; refine (refwidth_40 _).mono ?_; rintro e w' ⟨rfl, rfl⟩)
      go_ret
      exact ⟨ret_int HV.out, (by repeat (first | exact HB.out | refine Below.alloc ?_ (by first | exact HB.out.size | (simp; have := HB.out.size; omega)) _))⟩
    · have HV := Lib.hid (show 980 * p * s * u / dn = bitsR ⟨4, (n : Int), s, 80, g⟩ by rw [HE.out]; rfl)
      clear HE
      have hs0 : w3.cell? ⟨w.heap.size, 0, none⟩ = some (.int .i64 (4)) := rt_cell HG.out 0
      have hs1 : w3.cell? ⟨w.heap.size, 1, none⟩ = some (.int .i64 ((n : Int))) := rt_cell HG.out 1
      have hs2 : w3.cell? ⟨w.heap.size, 2, none⟩ = some (.int .i64 (s)) := rt_cell HG.out 2
      have hs3 : w3.cell? ⟨w.heap.size, 3, none⟩ = some (.int .i64 (80)) := rt_cell HG.out 3
      have ho0_1 := fun (o0 : Obj) => (alloc_old hs0 o0)
      have ho0_2 := fun (o0 o1 : Obj) => (alloc_old (alloc_old hs0 o0) o1)
      have ho0_3 := fun (o0 o1 o2 : Obj) => (alloc_old (alloc_old (alloc_old hs0 o0) o1) o2)
      have ho0_4 := fun (o0 o1 o2 o3 : Obj) => (alloc_old (alloc_old (alloc_old (alloc_old hs0 o0) o1) o2) o3)
      have ho0_5 := fun (o0 o1 o2 o3 o4 : Obj) => (alloc_old (alloc_old (alloc_old (alloc_old (alloc_old hs0 o0) o1) o2) o3) o4)
      have ho1_1 := fun (o0 : Obj) => (alloc_old hs1 o0)
      have ho1_2 := fun (o0 o1 : Obj) => (alloc_old (alloc_old hs1 o0) o1)
      have ho1_3 := fun (o0 o1 o2 : Obj) => (alloc_old (alloc_old (alloc_old hs1 o0) o1) o2)
      have ho1_4 := fun (o0 o1 o2 o3 : Obj) => (alloc_old (alloc_old (alloc_old (alloc_old hs1 o0) o1) o2) o3)
      have ho1_5 := fun (o0 o1 o2 o3 o4 : Obj) => (alloc_old (alloc_old (alloc_old (alloc_old (alloc_old hs1 o0) o1) o2) o3) o4)
      have ho2_1 := fun (o0 : Obj) => (alloc_old hs2 o0)
      have ho2_2 := fun (o0 o1 : Obj) => (alloc_old (alloc_old hs2 o0) o1)
      have ho2_3 := fun (o0 o1 o2 : Obj) => (alloc_old (alloc_old (alloc_old hs2 o0) o1) o2)
      have ho2_4 := fun (o0 o1 o2 o3 : Obj) => (alloc_old (alloc_old (alloc_old (alloc_old hs2 o0) o1) o2) o3)
      have ho2_5 := fun (o0 o1 o2 o3 o4 : Obj) => (alloc_old (alloc_old (alloc_old (alloc_old (alloc_old hs2 o0) o1) o2) o3) o4)
      have ho3_1 := fun (o0 : Obj) => (alloc_old hs3 o0)
      have ho3_2 := fun (o0 o1 : Obj) => (alloc_old (alloc_old hs3 o0) o1)
      have ho3_3 := fun (o0 o1 o2 : Obj) => (alloc_old (alloc_old (alloc_old hs3 o0) o1) o2)
      have ho3_4 := fun (o0 o1 o2 o3 : Obj) => (alloc_old (alloc_old (alloc_old (alloc_old hs3 o0) o1) o2) o3)
      have ho3_5 := fun (o0 o1 o2 o3 o4 : Obj) => (alloc_old (alloc_old (alloc_old (alloc_old (alloc_old hs3 o0) o1) o2) o3) o4)
      have b1 := prod_in (a := 980 * p) (b := s) (A := 9800) (B := 8) (by omega) (by omega) (by omega) (by omega)
      have b2 := prod_in (a := 980 * p * s) (b := u) (A := 78400) (B := 5) (by omega) (by omega) (by omega) (by omega)
      go_wp2_with (go_at_call 30; refine (refwidth_80 _).mono ?_; rintro e w' ⟨rfl, rfl⟩)
      go_ret
      exact ⟨ret_int HV.out, (by repeat (first | exact HB.out | refine Below.alloc ?_ (by first | exact HB.out.size | (simp; have := HB.out.size; omega)) _))⟩
    · have HV := Lib.hid (show 1960 * p * s * u / dn = bitsR ⟨4, (n : Int), s, 160, g⟩ by rw [HE.out]; rfl)
      clear HE
      have hs0 : w3.cell? ⟨w.heap.size, 0, none⟩ = some (.int .i64 (4)) := rt_cell HG.out 0
      have hs1 : w3.cell? ⟨w.heap.size, 1, none⟩ = some (.int .i64 ((n : Int))) := rt_cell HG.out 1
      have hs2 : w3.cell? ⟨w.heap.size, 2, none⟩ = some (.int .i64 (s)) := rt_cell HG.out 2
      have hs3 : w3.cell? ⟨w.heap.size, 3, none⟩ = some (.int .i64 (160)) := rt_cell HG.out 3
      have ho0_1 := fun (o0 : Obj) => (alloc_old hs0 o0)
      have ho0_2 := fun (o0 o1 : Obj) => (alloc_old (alloc_old hs0 o0) o1)
      have ho0_3 := fun (o0 o1 o2 : Obj) => (alloc_old (alloc_old (alloc_old hs0 o0) o1) o2)
      have ho0_4 := fun (o0 o1 o2 o3 : Obj) => (alloc_old (alloc_old (alloc_old (alloc_old hs0 o0) o1) o2) o3)
      have ho0_5 := fun (o0 o1 o2 o3 o4 : Obj) => (alloc_old (alloc_old (alloc_old (alloc_old (alloc_old hs0 o0) o1) o2) o3) o4)
      have ho1_1 := fun (o0 : Obj) => (alloc_old hs1 o0)
      have ho1_2 := fun (o0 o1 : Obj) => (alloc_old (alloc_old hs1 o0) o1)
      have ho1_3 := fun (o0 o1 o2 : Obj) => (alloc_old (alloc_old (alloc_old hs1 o0) o1) o2)
      have ho1_4 := fun (o0 o1 o2 o3 : Obj) => (alloc_old (alloc_old (alloc_old (alloc_old hs1 o0) o1) o2) o3)
      have ho1_5 := fun (o0 o1 o2 o3 o4 : Obj) => (alloc_old (alloc_old (alloc_old (alloc_old (alloc_old hs1 o0) o1) o2) o3) o4)
      have ho2_1 := fun (o0 : Obj) => (alloc_old hs2 o0)
      have ho2_2 := fun (o0 o1 : Obj) => (alloc_old (alloc_old hs2 o0) o1)
      have ho2_3 := fun (o0 o1 o2 : Obj) => (alloc_old (alloc_old (alloc_old hs2 o0) o1) o2)
      have ho2_4 := fun (o0 o1 o2 o3 : Obj) => (alloc_old (alloc_old (alloc_old (alloc_old hs2 o0) o1) o2) o3)
      have ho2_5 := fun (o0 o1 o2 o3 o4 : Obj) => (alloc_old (alloc_old (alloc_old (alloc_old (alloc_old hs2 o0) o1) o2) o3) o4)
      have ho3_1 := fun (o0 : Obj) => (alloc_old hs3 o0)
      have ho3_2 := fun (o0 o1 : Obj) => (alloc_old (alloc_old hs3 o0) o1)
      have ho3_3 := fun (o0 o1 o2 : Obj) => (alloc_old (alloc_old (alloc_old hs3 o0) o1) o2)
      have ho3_4 := fun (o0 o1 o2 o3 : Obj) => (alloc_old (alloc_old (alloc_old (alloc_old hs3 o0) o1) o2) o3)
      have ho3_5 := fun (o0 o1 o2 o3 o4 : Obj) => (alloc_old (alloc_old (alloc_old (alloc_old (alloc_old hs3 o0) o1) o2) o3) o4)
      have b1 := prod_in (a := 1960 * p) (b := s) (A := 19600) (B := 8) (by omega) (by omega) (by omega) (by omega)
      have b2 := prod_in (a := 1960 * p * s) (b := u) (A := 156800) (B := 5) (by omega) (by omega) (by omega) (by omega)
      go_wp2_with (go_at_call 30; refine (refwidth_160 _).mono ?_; rintro e w' ⟨rfl, rfl⟩)
      go_ret
      exact ⟨ret_int HV.out, (by repeat (first | exact HB.out | refine Below.alloc ?_ (by first | exact HB.out.size | (simp; have := HB.out.size; omega)) _))⟩
end Go.Proofs.YtlkoleannlpflaaDoor
