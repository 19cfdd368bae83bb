/-
  CONTRACTS of package rate: Valid, Bits, Symbol, Preamble: each in one, of whatever rate.
-/
import Derived.Test.YtlkoleannlpflaaDoorRateC
namespace Go.Proofs.YtlkoleannlpflaaDoor
open Go.ChangeShapes Go.WideShapes Go.ChangeAt Go.RowKit
set_option linter.unusedVariables false
set_option linter.unusedSimpArgs false

theorem place_20 (w : World) : Calls Tryd.prog 29 #[.int .i64 20] w fun e w' => e = .returned (.int .i64 0) ∧ w = w' := place_any 20 w
theorem place_40 (w : World) : Calls Tryd.prog 29 #[.int .i64 40] w fun e w' => e = .returned (.int .i64 1) ∧ w = w' := place_any 40 w
theorem place_80 (w : World) : Calls Tryd.prog 29 #[.int .i64 80] w fun e w' => e = .returned (.int .i64 2) ∧ w = w' := place_any 80 w
theorem place_160 (w : World) : Calls Tryd.prog 29 #[.int .i64 160] w fun e w' => e = .returned (.int .i64 3) ∧ w = w' := place_any 160 w
theorem cell_of3 {w : World} {g : Nat} {cs : Array Value} {t : TypeId} {fr : Nat × Nat} (h : w.heap[g]? = some (.cells cs t fr)) (i : Nat) : w.cell? ⟨g, i, none⟩ = cs[i]? := by
  simp only [World.cell?, h]
  rfl
theorem sizeCode : (Tryd.prog.info? 61).map (·.size) = some 3 := by kernel_rfl
theorem code_in : ∀ n, n < 12 → (1 ≤ (codL.getD n []).getD 0 0 ∧ (codL.getD n []).getD 0 0 ≤ 10) ∧ (1 ≤ (codL.getD n []).getD 1 0 ∧ (codL.getD n []).getD 1 0 ≤ 5) ∧ (2 ≤ (codL.getD n []).getD 2 0 ∧ (codL.getD n []).getD 2 0 ≤ 6) := by decide
theorem code_is : ∀ n, n < 12 → (codL.getD n []).getD 0 0 = perR (n : Int) ∧ (codL.getD n []).getD 1 0 = upR (n : Int) ∧ (codL.getD n []).getD 2 0 = downR (n : Int) := by decide
theorem range3 {w : World} {b o : Nat} {x y z : Value} (h0 : w.cell? ⟨b, o + 0, none⟩ = some x) (h1 : w.cell? ⟨b, o + 1, none⟩ = some y) (h2 : w.cell? ⟨b, o + 2, none⟩ = some z) : w.rangeAt b o [x, y, z] := by
  intro j v hv
  match j, hv with
  | 0, hv => cases hv; exact h0
  | 1, hv => cases hv; exact h1
  | 2, hv => cases hv; exact h2
  | (k + 3), hv => simp at hv
theorem prod_in {a b A B : Int} (h0 : 0 ≤ a) (h1 : a ≤ A) (h2 : 0 ≤ b) (h3 : b ≤ B) : 0 ≤ a * b ∧ a * b ≤ A * B := ⟨Int.mul_nonneg h0 h2, Int.mul_le_mul h1 h3 h2 (by omega)⟩
set_option maxRecDepth 100000 in
set_option maxHeartbeats 8000000 in
theorem bits_any (r : Rt) (w : World) (hT : Tab w) :
    Calls Tryd.prog 34 #[r.val] w fun e w' => e = .returned (.int .i64 (bitsR r)) ∧ Below w.heap.size w w' := by
  have HT := Lib.hid hT
  clear hT
  have HB := Lib.hid ((Below.refl w.heap.size w).alloc (Nat.le_refl _) (.cells r.arr 23))
  have HG := Lib.hid (heap_alloc_last w (.cells r.arr 23))
  go_enter Tryd.func34, Tryd.ntmps34
  go_wp2_with (fail)
  generalize World.alloc w _ = w2 at *
  refine (valid_any r w2).mono ?_
  rintro e w3 ⟨rfl, hB⟩
  have T0 := Lib.hid (HB.out.trans (hB.mono HB.out.size))
  have T1 := Lib.hid ((hB.block _ (lt_blk HG.out)).trans HG.out)
  clear hB HB HG
  have HB := T0
  have HG := T1
  clear T0 T1
  have T0 := Lib.hid (HT.out.below (HB.out.mono (Nat.le_refl _)))
  clear HT
  have HT := T0
  clear T0
  cases hv : validR r
  · have HE := Lib.hid (bits_no hv)
    clear hv
    go_wp2
    go_ret
    exact ⟨ret_int HE.out.symm, HB.out⟩
  obtain ⟨m, c, s, wd, g⟩ := r
  have hm : m = 1 ∨ m = 2 ∨ m = 3 ∨ m = 4 := valid_mode hv
  rcases hm with rfl | rfl | rfl | rfl
  · obtain ⟨hc, hs, hw, -⟩ := valid_1 hv rfl
    have HE := Lib.hid (bits_at hv)
    clear hv
    dsimp only at hc hs hw HE
    obtain ⟨n, rfl⟩ := Int.eq_ofNat_of_zero_le hc.1
    subst hs hw
    have hn : n < 8 := by omega
    have hl := HT.out.leg n hn
    have hs0 : w3.cell? ⟨w.heap.size, 0, none⟩ = some (.int .i64 (1)) := rt_cell HG.out 0
    have hs1 : w3.cell? ⟨w.heap.size, 1, none⟩ = some (.int .i64 ((n : Int))) := rt_cell HG.out 1
    have HV := Lib.hid (show legL.getD n 0 = bitsR ⟨1, (n : Int), 1, 20, g⟩ by rw [HE.out]; rfl)
    generalize legL.getD n 0 = v at *
    clear HE hc
    go_wp2
    go_ret
    exact ⟨ret_int HV.out, HB.out⟩
  · obtain ⟨hc, hs, hw, -⟩ := valid_2 hv rfl
    have HE := Lib.hid (bits_at hv)
    clear hv
    dsimp only at hc hs hw HE
    obtain ⟨n, rfl⟩ := Int.eq_ofNat_of_zero_le hc.1
    have hn : n < 12 := by omega
    have hq := code_in n hn
    have c0 := HT.out.cod n hn 0 (by omega)
    have c1 := HT.out.cod n hn 1 (by omega)
    have c2 := HT.out.cod n hn 2 (by omega)
    have HQ := Lib.hid (code_is n hn)
    generalize (codL.getD n []).getD 0 0 = p at *
    generalize (codL.getD n []).getD 1 0 = u at *
    generalize (codL.getD n []).getD 2 0 = dn at *
    have hr : w3.rangeAt 1 (n * 3) [.int .i64 p, .int .i64 u, .int .i64 dn] := range3 c0 c1 c2
    have HR := Lib.hid hr
    clear hr c0 c1 c2 HT hc
    have hs0 : w3.cell? ⟨w.heap.size, 0, none⟩ = some (.int .i64 (2)) := rt_cell HG.out 0
    have hs1 : w3.cell? ⟨w.heap.size, 1, none⟩ = some (.int .i64 ((n : Int))) := rt_cell HG.out 1
    have T0 := Lib.hid (HB.out.alloc HB.out.size (.cells #[.int .i64 p, .int .i64 u, .int .i64 dn] 61))
    have T1 := Lib.hid (((Below.refl w3.heap.size w3).alloc (Nat.le_refl _) (.cells #[.int .i64 p, .int .i64 u, .int .i64 dn] 61)).block _ (lt_blk HG.out) |>.trans HG.out)
    have HC := Lib.hid (heap_alloc_last w3 (.cells #[.int .i64 p, .int .i64 u, .int .i64 dn] 61))
    clear HB HG
    have HB := T0
    have HG := T1
    clear T0 T1
    rcases hw with rfl | rfl
    · have HV := Lib.hid (show 52 * p * s * u / dn = bitsR ⟨2, (n : Int), s, 20, g⟩ by rw [HE.out, HQ.out.1, HQ.out.2.1, HQ.out.2.2]; rfl)
      clear HE HQ
      go_wp2_with ((refine wpList_load_mid rfl 61 (.tmp 19) rfl 1 (n * 3) rfl [.int .i64 p, .int .i64 u, .int .i64 dn] _ HR.out Tryd.underlying61 rfl sizeCode ?_))
      generalize World.alloc w3 _ = w4 at *
      generalize w3.heap.size = gc at *
      have hr0 : ∀ d os, (Go.Sort.grow (redrawn w4 d) os).cell? ⟨w.heap.size, 0, none⟩ = some (.int .i64 (2)) := fun d os => rt_cell (block_regrown HG.out d os) 0
      have hr3 : ∀ d os, (Go.Sort.grow (redrawn w4 d) os).cell? ⟨w.heap.size, 3, none⟩ = some (.int .i64 (20)) := fun d os => rt_cell (block_regrown HG.out d os) 3
      clear hs0 hs1
      have hf := field4_2
      have hi := car_2_0
      have hpl := place_20
      refine wp_region_quiet_below (by kernel_rfl) (by kernel_rfl) ?_
      repeat (quiet_step (first | (go_at_call 27; exact Calls.rg (kindOf_2 _)) | (go_at_call 29; exact Calls.rg_same (place_20 _))))
      refine wpQuiet_nil ?_
      rintro _ ⟨⟨dq, osq⟩, rfl⟩
      have hB := below_regrown w4 dq osq
      generalize Go.Sort.grow (redrawn w4 dq) osq = w5 at *
      have T0 := Lib.hid (HB.out.trans (hB.mono HB.out.size))
      have T1 := Lib.hid ((hB.block _ (lt_blk HG.out)).trans HG.out)
      have T2 := Lib.hid ((hB.block _ (lt_blk HC.out)).trans HC.out)
      clear hB HB HG HC hr0 hr3 hf hi hpl
      have hs2 : w5.cell? ⟨w.heap.size, 2, none⟩ = some (.int .i64 s) := rt_cell T1.out 2
      have hp0 := cell_of3 T2.out 0
      have hp1 := cell_of3 T2.out 1
      have hp2 := cell_of3 T2.out 2
      simp only [List.getElem?_toArray, List.getElem?_cons_zero, List.getElem?_cons_succ] at hp0 hp1 hp2
      have b1 := prod_in (a := 52 * p) (b := s) (A := 520) (B := 8) (by omega) (by omega) (by omega) (by omega)
      have b2 := prod_in (a := 52 * p * s) (b := u) (A := 4160) (B := 5) (by omega) (by omega) (by omega) (by omega)
      clear HR T1 T2
      go_wp2
      go_ret
      exact ⟨ret_int HV.out, T0.out⟩
    · have HV := Lib.hid (show 108 * p * s * u / dn = bitsR ⟨2, (n : Int), s, 40, g⟩ by rw [HE.out, HQ.out.1, HQ.out.2.1, HQ.out.2.2]; rfl)
      clear HE HQ
      go_wp2_with ((refine wpList_load_mid rfl 61 (.tmp 19) rfl 1 (n * 3) rfl [.int .i64 p, .int .i64 u, .int .i64 dn] _ HR.out Tryd.underlying61 rfl sizeCode ?_))
      generalize World.alloc w3 _ = w4 at *
      generalize w3.heap.size = gc at *
      have hr0 : ∀ d os, (Go.Sort.grow (redrawn w4 d) os).cell? ⟨w.heap.size, 0, none⟩ = some (.int .i64 (2)) := fun d os => rt_cell (block_regrown HG.out d os) 0
      have hr3 : ∀ d os, (Go.Sort.grow (redrawn w4 d) os).cell? ⟨w.heap.size, 3, none⟩ = some (.int .i64 (40)) := fun d os => rt_cell (block_regrown HG.out d os) 3
      clear hs0 hs1
      have hf := field4_2
      have hi := car_2_1
      have hpl := place_40
      refine wp_region_quiet_below (by kernel_rfl) (by kernel_rfl) ?_
      repeat (quiet_step (first | (go_at_call 27; exact Calls.rg (kindOf_2 _)) | (go_at_call 29; exact Calls.rg_same (place_40 _))))
      refine wpQuiet_nil ?_
      rintro _ ⟨⟨dq, osq⟩, rfl⟩
      have hB := below_regrown w4 dq osq
      generalize Go.Sort.grow (redrawn w4 dq) osq = w5 at *
      have T0 := Lib.hid (HB.out.trans (hB.mono HB.out.size))
      have T1 := Lib.hid ((hB.block _ (lt_blk HG.out)).trans HG.out)
      have T2 := Lib.hid ((hB.block _ (lt_blk HC.out)).trans HC.out)
      clear hB HB HG HC hr0 hr3 hf hi hpl
      have hs2 : w5.cell? ⟨w.heap.size, 2, none⟩ = some (.int .i64 s) := rt_cell T1.out 2
      have hp0 := cell_of3 T2.out 0
      have hp1 := cell_of3 T2.out 1
      have hp2 := cell_of3 T2.out 2
      simp only [List.getElem?_toArray, List.getElem?_cons_zero, List.getElem?_cons_succ] at hp0 hp1 hp2
      have b1 := prod_in (a := 108 * p) (b := s) (A := 1080) (B := 8) (by omega) (by omega) (by omega) (by omega)
      have b2 := prod_in (a := 108 * p * s) (b := u) (A := 8640) (B := 5) (by omega) (by omega) (by omega) (by omega)
      clear HR T1 T2
      go_wp2
      go_ret
      exact ⟨ret_int HV.out, T0.out⟩
  · obtain ⟨hc, hs, hw, -⟩ := valid_3 hv rfl
    have HE := Lib.hid (bits_at hv)
    clear hv
    dsimp only at hc hs hw HE
    obtain ⟨n, rfl⟩ := Int.eq_ofNat_of_zero_le hc.1
    have hn : n < 12 := by omega
    have hq := code_in n hn
    have c0 := HT.out.cod n hn 0 (by omega)
    have c1 := HT.out.cod n hn 1 (by omega)
    have c2 := HT.out.cod n hn 2 (by omega)
    have HQ := Lib.hid (code_is n hn)
    generalize (codL.getD n []).getD 0 0 = p at *
    generalize (codL.getD n []).getD 1 0 = u at *
    generalize (codL.getD n []).getD 2 0 = dn at *
    have hr : w3.rangeAt 1 (n * 3) [.int .i64 p, .int .i64 u, .int .i64 dn] := range3 c0 c1 c2
    have HR := Lib.hid hr
    clear hr c0 c1 c2 HT hc
    have hs0 : w3.cell? ⟨w.heap.size, 0, none⟩ = some (.int .i64 (3)) := rt_cell HG.out 0
    have hs1 : w3.cell? ⟨w.heap.size, 1, none⟩ = some (.int .i64 ((n : Int))) := rt_cell HG.out 1
    have T0 := Lib.hid (HB.out.alloc HB.out.size (.cells #[.int .i64 p, .int .i64 u, .int .i64 dn] 61))
    have T1 := Lib.hid (((Below.refl w3.heap.size w3).alloc (Nat.le_refl _) (.cells #[.int .i64 p, .int .i64 u, .int .i64 dn] 61)).block _ (lt_blk HG.out) |>.trans HG.out)
    have HC := Lib.hid (heap_alloc_last w3 (.cells #[.int .i64 p, .int .i64 u, .int .i64 dn] 61))
    clear HB HG
    have HB := T0
    have HG := T1
    clear T0 T1
    rcases hw with rfl | rfl | rfl | rfl
    · have HV := Lib.hid (show 52 * p * s * u / dn = bitsR ⟨3, (n : Int), s, 20, g⟩ by rw [HE.out, HQ.out.1, HQ.out.2.1, HQ.out.2.2]; rfl)
      clear HE HQ
      go_wp2_with ((refine wpList_load_mid rfl 61 (.tmp 19) rfl 1 (n * 3) rfl [.int .i64 p, .int .i64 u, .int .i64 dn] _ HR.out Tryd.underlying61 rfl sizeCode ?_))
      generalize World.alloc w3 _ = w4 at *
      generalize w3.heap.size = gc at *
      have hr0 : ∀ d os, (Go.Sort.grow (redrawn w4 d) os).cell? ⟨w.heap.size, 0, none⟩ = some (.int .i64 (3)) := fun d os => rt_cell (block_regrown HG.out d os) 0
      have hr3 : ∀ d os, (Go.Sort.grow (redrawn w4 d) os).cell? ⟨w.heap.size, 3, none⟩ = some (.int .i64 (20)) := fun d os => rt_cell (block_regrown HG.out d os) 3
      clear hs0 hs1
      have hf := field4_3
      have hi := car_3_0
      have hpl := place_20
      refine wp_region_quiet_below (by kernel_rfl) (by kernel_rfl) ?_
      repeat (quiet_step (first | (go_at_call 27; exact Calls.rg (kindOf_3 _)) | (go_at_call 29; exact Calls.rg_same (place_20 _))))
      refine wpQuiet_nil ?_
      rintro _ ⟨⟨dq, osq⟩, rfl⟩
      have hB := below_regrown w4 dq osq
      generalize Go.Sort.grow (redrawn w4 dq) osq = w5 at *
      have T0 := Lib.hid (HB.out.trans (hB.mono HB.out.size))
      have T1 := Lib.hid ((hB.block _ (lt_blk HG.out)).trans HG.out)
      have T2 := Lib.hid ((hB.block _ (lt_blk HC.out)).trans HC.out)
      clear hB HB HG HC hr0 hr3 hf hi hpl
      have hs2 : w5.cell? ⟨w.heap.size, 2, none⟩ = some (.int .i64 s) := rt_cell T1.out 2
      have hp0 := cell_of3 T2.out 0
      have hp1 := cell_of3 T2.out 1
      have hp2 := cell_of3 T2.out 2
      simp only [List.getElem?_toArray, List.getElem?_cons_zero, List.getElem?_cons_succ] at hp0 hp1 hp2
      have b1 := prod_in (a := 52 * p) (b := s) (A := 520) (B := 8) (by omega) (by omega) (by omega) (by omega)
      have b2 := prod_in (a := 52 * p * s) (b := u) (A := 4160) (B := 5) (by omega) (by omega) (by omega) (by omega)
      clear HR T1 T2
      go_wp2
      go_ret
      exact ⟨ret_int HV.out, T0.out⟩
    · have HV := Lib.hid (show 108 * p * s * u / dn = bitsR ⟨3, (n : Int), s, 40, g⟩ by rw [HE.out, HQ.out.1, HQ.out.2.1, HQ.out.2.2]; rfl)
      clear HE HQ
      go_wp2_with ((refine wpList_load_mid rfl 61 (.tmp 19) rfl 1 (n * 3) rfl [.int .i64 p, .int .i64 u, .int .i64 dn] _ HR.out Tryd.underlying61 rfl sizeCode ?_))
      generalize World.alloc w3 _ = w4 at *
      generalize w3.heap.size = gc at *
      have hr0 : ∀ d os, (Go.Sort.grow (redrawn w4 d) os).cell? ⟨w.heap.size, 0, none⟩ = some (.int .i64 (3)) := fun d os => rt_cell (block_regrown HG.out d os) 0
      have hr3 : ∀ d os, (Go.Sort.grow (redrawn w4 d) os).cell? ⟨w.heap.size, 3, none⟩ = some (.int .i64 (40)) := fun d os => rt_cell (block_regrown HG.out d os) 3
      clear hs0 hs1
      have hf := field4_3
      have hi := car_3_1
      have hpl := place_40
      refine wp_region_quiet_below (by kernel_rfl) (by kernel_rfl) ?_
      repeat (quiet_step (first | (go_at_call 27; exact Calls.rg (kindOf_3 _)) | (go_at_call 29; exact Calls.rg_same (place_40 _))))
      refine wpQuiet_nil ?_
      rintro _ ⟨⟨dq, osq⟩, rfl⟩
      have hB := below_regrown w4 dq osq
      generalize Go.Sort.grow (redrawn w4 dq) osq = w5 at *
      have T0 := Lib.hid (HB.out.trans (hB.mono HB.out.size))
      have T1 := Lib.hid ((hB.block _ (lt_blk HG.out)).trans HG.out)
      have T2 := Lib.hid ((hB.block _ (lt_blk HC.out)).trans HC.out)
      clear hB HB HG HC hr0 hr3 hf hi hpl
      have hs2 : w5.cell? ⟨w.heap.size, 2, none⟩ = some (.int .i64 s) := rt_cell T1.out 2
      have hp0 := cell_of3 T2.out 0
      have hp1 := cell_of3 T2.out 1
      have hp2 := cell_of3 T2.out 2
      simp only [List.getElem?_toArray, List.getElem?_cons_zero, List.getElem?_cons_succ] at hp0 hp1 hp2
      have b1 := prod_in (a := 108 * p) (b := s) (A := 1080) (B := 8) (by omega) (by omega) (by omega) (by omega)
      have b2 := prod_in (a := 108 * p * s) (b := u) (A := 8640) (B := 5) (by omega) (by omega) (by omega) (by omega)
      clear HR T1 T2
      go_wp2
      go_ret
      exact ⟨ret_int HV.out, T0.out⟩
    · have HV := Lib.hid (show 234 * p * s * u / dn = bitsR ⟨3, (n : Int), s, 80, g⟩ by rw [HE.out, HQ.out.1, HQ.out.2.1, HQ.out.2.2]; rfl)
      clear HE HQ
      go_wp2_with ((refine wpList_load_mid rfl 61 (.tmp 19) rfl 1 (n * 3) rfl [.int .i64 p, .int .i64 u, .int .i64 dn] _ HR.out Tryd.underlying61 rfl sizeCode ?_))
      generalize World.alloc w3 _ = w4 at *
      generalize w3.heap.size = gc at *
      have hr0 : ∀ d os, (Go.Sort.grow (redrawn w4 d) os).cell? ⟨w.heap.size, 0, none⟩ = some (.int .i64 (3)) := fun d os => rt_cell (block_regrown HG.out d os) 0
      have hr3 : ∀ d os, (Go.Sort.grow (redrawn w4 d) os).cell? ⟨w.heap.size, 3, none⟩ = some (.int .i64 (80)) := fun d os => rt_cell (block_regrown HG.out d os) 3
      clear hs0 hs1
      have hf := field4_3
      have hi := car_3_2
      have hpl := place_80
      refine wp_region_quiet_below (by kernel_rfl) (by kernel_rfl) ?_
      repeat (quiet_step (first | (go_at_call 27; exact Calls.rg (kindOf_3 _)) | (go_at_call 29; exact Calls.rg_same (place_80 _))))
      refine wpQuiet_nil ?_
      rintro _ ⟨⟨dq, osq⟩, rfl⟩
      have hB := below_regrown w4 dq osq
      generalize Go.Sort.grow (redrawn w4 dq) osq = w5 at *
      have T0 := Lib.hid (HB.out.trans (hB.mono HB.out.size))
      have T1 := Lib.hid ((hB.block _ (lt_blk HG.out)).trans HG.out)
      have T2 := Lib.hid ((hB.block _ (lt_blk HC.out)).trans HC.out)
      clear hB HB HG HC hr0 hr3 hf hi hpl
      have hs2 : w5.cell? ⟨w.heap.size, 2, none⟩ = some (.int .i64 s) := rt_cell T1.out 2
      have hp0 := cell_of3 T2.out 0
      have hp1 := cell_of3 T2.out 1
      have hp2 := cell_of3 T2.out 2
      simp only [List.getElem?_toArray, List.getElem?_cons_zero, List.getElem?_cons_succ] at hp0 hp1 hp2
      have b1 := prod_in (a := 234 * p) (b := s) (A := 2340) (B := 8) (by omega) (by omega) (by omega) (by omega)
      have b2 := prod_in (a := 234 * p * s) (b := u) (A := 18720) (B := 5) (by omega) (by omega) (by omega) (by omega)
      clear HR T1 T2
      go_wp2
      go_ret
      exact ⟨ret_int HV.out, T0.out⟩
    · have HV := Lib.hid (show 468 * p * s * u / dn = bitsR ⟨3, (n : Int), s, 160, g⟩ by rw [HE.out, HQ.out.1, HQ.out.2.1, HQ.out.2.2]; rfl)
      clear HE HQ
      go_wp2_with ((refine wpList_load_mid rfl 61 (.tmp 19) rfl 1 (n * 3) rfl [.int .i64 p, .int .i64 u, .int .i64 dn] _ HR.out Tryd.underlying61 rfl sizeCode ?_))
      generalize World.alloc w3 _ = w4 at *
      generalize w3.heap.size = gc at *
      have hr0 : ∀ d os, (Go.Sort.grow (redrawn w4 d) os).cell? ⟨w.heap.size, 0, none⟩ = some (.int .i64 (3)) := fun d os => rt_cell (block_regrown HG.out d os) 0
      have hr3 : ∀ d os, (Go.Sort.grow (redrawn w4 d) os).cell? ⟨w.heap.size, 3, none⟩ = some (.int .i64 (160)) := fun d os => rt_cell (block_regrown HG.out d os) 3
      clear hs0 hs1
      have hf := field4_3
      have hi := car_3_3
      have hpl := place_160
      refine wp_region_quiet_below (by kernel_rfl) (by kernel_rfl) ?_
      repeat (quiet_step (first | (go_at_call 27; exact Calls.rg (kindOf_3 _)) | (go_at_call 29; exact Calls.rg_same (place_160 _))))
      refine wpQuiet_nil ?_
      rintro _ ⟨⟨dq, osq⟩, rfl⟩
      have hB := below_regrown w4 dq osq
      generalize Go.Sort.grow (redrawn w4 dq) osq = w5 at *
      have T0 := Lib.hid (HB.out.trans (hB.mono HB.out.size))
      have T1 := Lib.hid ((hB.block _ (lt_blk HG.out)).trans HG.out)
      have T2 := Lib.hid ((hB.block _ (lt_blk HC.out)).trans HC.out)
      clear hB HB HG HC hr0 hr3 hf hi hpl
      have hs2 : w5.cell? ⟨w.heap.size, 2, none⟩ = some (.int .i64 s) := rt_cell T1.out 2
      have hp0 := cell_of3 T2.out 0
      have hp1 := cell_of3 T2.out 1
      have hp2 := cell_of3 T2.out 2
      simp only [List.getElem?_toArray, List.getElem?_cons_zero, List.getElem?_cons_succ] at hp0 hp1 hp2
      have b1 := prod_in (a := 468 * p) (b := s) (A := 4680) (B := 8) (by omega) (by omega) (by omega) (by omega)
      have b2 := prod_in (a := 468 * p * s) (b := u) (A := 37440) (B := 5) (by omega) (by omega) (by omega) (by omega)
      clear HR T1 T2
      go_wp2
      go_ret
      exact ⟨ret_int HV.out, T0.out⟩
  · obtain ⟨hc, hs, hw, -⟩ := valid_4 hv rfl
    have HE := Lib.hid (bits_at hv)
    clear hv
    dsimp only at hc hs hw HE
    obtain ⟨n, rfl⟩ := Int.eq_ofNat_of_zero_le hc.1
    have hn : n < 12 := by omega
    have hq := code_in n hn
    have c0 := HT.out.cod n hn 0 (by omega)
    have c1 := HT.out.cod n hn 1 (by omega)
    have c2 := HT.out.cod n hn 2 (by omega)
    have HQ := Lib.hid (code_is n hn)
    generalize (codL.getD n []).getD 0 0 = p at *
    generalize (codL.getD n []).getD 1 0 = u at *
    generalize (codL.getD n []).getD 2 0 = dn at *
    have hr : w3.rangeAt 1 (n * 3) [.int .i64 p, .int .i64 u, .int .i64 dn] := range3 c0 c1 c2
    have HR := Lib.hid hr
    clear hr c0 c1 c2 HT hc
    have hs0 : w3.cell? ⟨w.heap.size, 0, none⟩ = some (.int .i64 (4)) := rt_cell HG.out 0
    have hs1 : w3.cell? ⟨w.heap.size, 1, none⟩ = some (.int .i64 ((n : Int))) := rt_cell HG.out 1
    have T0 := Lib.hid (HB.out.alloc HB.out.size (.cells #[.int .i64 p, .int .i64 u, .int .i64 dn] 61))
    have T1 := Lib.hid (((Below.refl w3.heap.size w3).alloc (Nat.le_refl _) (.cells #[.int .i64 p, .int .i64 u, .int .i64 dn] 61)).block _ (lt_blk HG.out) |>.trans HG.out)
    have HC := Lib.hid (heap_alloc_last w3 (.cells #[.int .i64 p, .int .i64 u, .int .i64 dn] 61))
    clear HB HG
    have HB := T0
    have HG := T1
    clear T0 T1
    rcases hw with rfl | rfl | rfl | rfl
    · have HV := Lib.hid (show 234 * p * s * u / dn = bitsR ⟨4, (n : Int), s, 20, g⟩ by rw [HE.out, HQ.out.1, HQ.out.2.1, HQ.out.2.2]; rfl)
      clear HE HQ
      go_wp2_with ((refine wpList_load_mid rfl 61 (.tmp 19) rfl 1 (n * 3) rfl [.int .i64 p, .int .i64 u, .int .i64 dn] _ HR.out Tryd.underlying61 rfl sizeCode ?_))
      generalize World.alloc w3 _ = w4 at *
      generalize w3.heap.size = gc at *
      have hr0 : ∀ d os, (Go.Sort.grow (redrawn w4 d) os).cell? ⟨w.heap.size, 0, none⟩ = some (.int .i64 (4)) := fun d os => rt_cell (block_regrown HG.out d os) 0
      have hr3 : ∀ d os, (Go.Sort.grow (redrawn w4 d) os).cell? ⟨w.heap.size, 3, none⟩ = some (.int .i64 (20)) := fun d os => rt_cell (block_regrown HG.out d os) 3
      clear hs0 hs1
      have hf := field4_4
      have hi := car_4_0
      have hpl := place_20
      refine wp_region_quiet_below (by kernel_rfl) (by kernel_rfl) ?_
      repeat (quiet_step (first | (go_at_call 27; exact Calls.rg (kindOf_4 _)) | (go_at_call 29; exact Calls.rg_same (place_20 _))))
      refine wpQuiet_nil ?_
      rintro _ ⟨⟨dq, osq⟩, rfl⟩
      have hB := below_regrown w4 dq osq
      generalize Go.Sort.grow (redrawn w4 dq) osq = w5 at *
      have T0 := Lib.hid (HB.out.trans (hB.mono HB.out.size))
      have T1 := Lib.hid ((hB.block _ (lt_blk HG.out)).trans HG.out)
      have T2 := Lib.hid ((hB.block _ (lt_blk HC.out)).trans HC.out)
      clear hB HB HG HC hr0 hr3 hf hi hpl
      have hs2 : w5.cell? ⟨w.heap.size, 2, none⟩ = some (.int .i64 s) := rt_cell T1.out 2
      have hp0 := cell_of3 T2.out 0
      have hp1 := cell_of3 T2.out 1
      have hp2 := cell_of3 T2.out 2
      simp only [List.getElem?_toArray, List.getElem?_cons_zero, List.getElem?_cons_succ] at hp0 hp1 hp2
      have b1 := prod_in (a := 234 * p) (b := s) (A := 2340) (B := 8) (by omega) (by omega) (by omega) (by omega)
      have b2 := prod_in (a := 234 * p * s) (b := u) (A := 18720) (B := 5) (by omega) (by omega) (by omega) (by omega)
      clear HR T1 T2
      go_wp2
      go_ret
      exact ⟨ret_int HV.out, T0.out⟩
    · have HV := Lib.hid (show 468 * p * s * u / dn = bitsR ⟨4, (n : Int), s, 40, g⟩ by rw [HE.out, HQ.out.1, HQ.out.2.1, HQ.out.2.2]; rfl)
      clear HE HQ
      go_wp2_with ((refine wpList_load_mid rfl 61 (.tmp 19) rfl 1 (n * 3) rfl [.int .i64 p, .int .i64 u, .int .i64 dn] _ HR.out Tryd.underlying61 rfl sizeCode ?_))
      generalize World.alloc w3 _ = w4 at *
      generalize w3.heap.size = gc at *
      have hr0 : ∀ d os, (Go.Sort.grow (redrawn w4 d) os).cell? ⟨w.heap.size, 0, none⟩ = some (.int .i64 (4)) := fun d os => rt_cell (block_regrown HG.out d os) 0
      have hr3 : ∀ d os, (Go.Sort.grow (redrawn w4 d) os).cell? ⟨w.heap.size, 3, none⟩ = some (.int .i64 (40)) := fun d os => rt_cell (block_regrown HG.out d os) 3
      clear hs0 hs1
      have hf := field4_4
      have hi := car_4_1
      have hpl := place_40
      refine wp_region_quiet_below (by kernel_rfl) (by kernel_rfl) ?_
      repeat (quiet_step (first | (go_at_call 27; exact Calls.rg (kindOf_4 _)) | (go_at_call 29; exact Calls.rg_same (place_40 _))))
      refine wpQuiet_nil ?_
      rintro _ ⟨⟨dq, osq⟩, rfl⟩
      have hB := below_regrown w4 dq osq
      generalize Go.Sort.grow (redrawn w4 dq) osq = w5 at *
      have T0 := Lib.hid (HB.out.trans (hB.mono HB.out.size))
      have T1 := Lib.hid ((hB.block _ (lt_blk HG.out)).trans HG.out)
      have T2 := Lib.hid ((hB.block _ (lt_blk HC.out)).trans HC.out)
      clear hB HB HG HC hr0 hr3 hf hi hpl
      have hs2 : w5.cell? ⟨w.heap.size, 2, none⟩ = some (.int .i64 s) := rt_cell T1.out 2
      have hp0 := cell_of3 T2.out 0
      have hp1 := cell_of3 T2.out 1
      have hp2 := cell_of3 T2.out 2
      simp only [List.getElem?_toArray, List.getElem?_cons_zero, List.getElem?_cons_succ] at hp0 hp1 hp2
      have b1 := prod_in (a := 468 * p) (b := s) (A := 4680) (B := 8) (by omega) (by omega) (by omega) (by omega)
      have b2 := prod_in (a := 468 * p * s) (b := u) (A := 37440) (B := 5) (by omega) (by omega) (by omega) (by omega)
      clear HR T1 T2
      go_wp2
      go_ret
      exact ⟨ret_int HV.out, T0.out⟩
    · have HV := Lib.hid (show 980 * p * s * u / dn = bitsR ⟨4, (n : Int), s, 80, g⟩ by rw [HE.out, HQ.out.1, HQ.out.2.1, HQ.out.2.2]; rfl)
      clear HE HQ
      go_wp2_with ((refine wpList_load_mid rfl 61 (.tmp 19) rfl 1 (n * 3) rfl [.int .i64 p, .int .i64 u, .int .i64 dn] _ HR.out Tryd.underlying61 rfl sizeCode ?_))
      generalize World.alloc w3 _ = w4 at *
      generalize w3.heap.size = gc at *
      have hr0 : ∀ d os, (Go.Sort.grow (redrawn w4 d) os).cell? ⟨w.heap.size, 0, none⟩ = some (.int .i64 (4)) := fun d os => rt_cell (block_regrown HG.out d os) 0
      have hr3 : ∀ d os, (Go.Sort.grow (redrawn w4 d) os).cell? ⟨w.heap.size, 3, none⟩ = some (.int .i64 (80)) := fun d os => rt_cell (block_regrown HG.out d os) 3
      clear hs0 hs1
      have hf := field4_4
      have hi := car_4_2
      have hpl := place_80
      refine wp_region_quiet_below (by kernel_rfl) (by kernel_rfl) ?_
      repeat (quiet_step (first | (go_at_call 27; exact Calls.rg (kindOf_4 _)) | (go_at_call 29; exact Calls.rg_same (place_80 _))))
      refine wpQuiet_nil ?_
      rintro _ ⟨⟨dq, osq⟩, rfl⟩
      have hB := below_regrown w4 dq osq
      generalize Go.Sort.grow (redrawn w4 dq) osq = w5 at *
      have T0 := Lib.hid (HB.out.trans (hB.mono HB.out.size))
      have T1 := Lib.hid ((hB.block _ (lt_blk HG.out)).trans HG.out)
      have T2 := Lib.hid ((hB.block _ (lt_blk HC.out)).trans HC.out)
      clear hB HB HG HC hr0 hr3 hf hi hpl
      have hs2 : w5.cell? ⟨w.heap.size, 2, none⟩ = some (.int .i64 s) := rt_cell T1.out 2
      have hp0 := cell_of3 T2.out 0
      have hp1 := cell_of3 T2.out 1
      have hp2 := cell_of3 T2.out 2
      simp only [List.getElem?_toArray, List.getElem?_cons_zero, List.getElem?_cons_succ] at hp0 hp1 hp2
      have b1 := prod_in (a := 980 * p) (b := s) (A := 9800) (B := 8) (by omega) (by omega) (by omega) (by omega)
      have b2 := prod_in (a := 980 * p * s) (b := u) (A := 78400) (B := 5) (by omega) (by omega) (by omega) (by omega)
      clear HR T1 T2
      go_wp2
      go_ret
      exact ⟨ret_int HV.out, T0.out⟩
    · have HV := Lib.hid (show 1960 * p * s * u / dn = bitsR ⟨4, (n : Int), s, 160, g⟩ by rw [HE.out, HQ.out.1, HQ.out.2.1, HQ.out.2.2]; rfl)
      clear HE HQ
      go_wp2_with ((refine wpList_load_mid rfl 61 (.tmp 19) rfl 1 (n * 3) rfl [.int .i64 p, .int .i64 u, .int .i64 dn] _ HR.out Tryd.underlying61 rfl sizeCode ?_))
      generalize World.alloc w3 _ = w4 at *
      generalize w3.heap.size = gc at *
      have hr0 : ∀ d os, (Go.Sort.grow (redrawn w4 d) os).cell? ⟨w.heap.size, 0, none⟩ = some (.int .i64 (4)) := fun d os => rt_cell (block_regrown HG.out d os) 0
      have hr3 : ∀ d os, (Go.Sort.grow (redrawn w4 d) os).cell? ⟨w.heap.size, 3, none⟩ = some (.int .i64 (160)) := fun d os => rt_cell (block_regrown HG.out d os) 3
      clear hs0 hs1
      have hf := field4_4
      have hi := car_4_3
      have hpl := place_160
      refine wp_region_quiet_below (by kernel_rfl) (by kernel_rfl) ?_
      repeat (quiet_step (first | (go_at_call 27; exact Calls.rg (kindOf_4 _)) | (go_at_call 29; exact Calls.rg_same (place_160 _))))
      refine wpQuiet_nil ?_
      rintro _ ⟨⟨dq, osq⟩, rfl⟩
      have hB := below_regrown w4 dq osq
      generalize Go.Sort.grow (redrawn w4 dq) osq = w5 at *
      have T0 := Lib.hid (HB.out.trans (hB.mono HB.out.size))
      have T1 := Lib.hid ((hB.block _ (lt_blk HG.out)).trans HG.out)
      have T2 := Lib.hid ((hB.block _ (lt_blk HC.out)).trans HC.out)
      clear hB HB HG HC hr0 hr3 hf hi hpl
      have hs2 : w5.cell? ⟨w.heap.size, 2, none⟩ = some (.int .i64 s) := rt_cell T1.out 2
      have hp0 := cell_of3 T2.out 0
      have hp1 := cell_of3 T2.out 1
      have hp2 := cell_of3 T2.out 2
      simp only [List.getElem?_toArray, List.getElem?_cons_zero, List.getElem?_cons_succ] at hp0 hp1 hp2
      have b1 := prod_in (a := 1960 * p) (b := s) (A := 19600) (B := 8) (by omega) (by omega) (by omega) (by omega)
      have b2 := prod_in (a := 1960 * p * s) (b := u) (A := 156800) (B := 5) (by omega) (by omega) (by omega) (by omega)
      clear HR T1 T2
      go_wp2
      go_ret
      exact ⟨ret_int HV.out, T0.out⟩
end Go.Proofs.YtlkoleannlpflaaDoor
