/-
  The walk of muezzin/muezzinlaw17.BuildAlone: the Go text returns true.
-/
import Derived.Test.YtlkoleannlpflaaDoorBuildH
import Derived.Test.YtlkoleannlpflaaDoorOpenL
import Derived.WalkKit
import Derived.Deep.RegionHeld3
import Derived.ProofKit
import Derived.Below
namespace Go.Proofs.YtlkoleannlpflaaDoor.buildAlone
open Go.ChangeShapes Go.WideShapes Go.ChangeAt Go.RowKit Go.Joins Go.Deep
set_option linter.unusedVariables false
set_option linter.unusedSimpArgs false

/-! ### THE WALK -/
set_option maxRecDepth 100000 in
set_option maxHeartbeats 8000000 in
theorem walk (n0 : Int) (n1 : Int) (n2 : Int) (w : World) (hS : Tab w) (w0 : (Lit.int .i64 n0).wf = true) (w1 : (Lit.int .i64 n1).wf = true) (w2 : (Lit.int .i64 n2).wf = true) :
    Calls Tryd.prog 5 #[.int .i64 n0, .int .i64 n1, .int .i64 n2] w fun e w' => e = .returned (.bool true) ∧ Below w.heap.size w w' := by
  have HT := Shut.mk hS
  have HW0 := Lib.hid w0
  have HW1 := Lib.hid w1
  have HW2 := Lib.hid w2
  clear hS w0 w1 w2
  go_enter Tryd.func5, Tryd.ntmps5
  go_wp2_with (fail)
  refine (first_any w HT.out).mono ?_
  rintro e wb ⟨rfl, hB⟩
  have HB := Lib.hid hB
  clear hB
  go_wp2_with (fail)
  refine (refall_any 2 wb).mono ?_
  rintro e wc ⟨A, c, rfl, hr, hc, hB⟩
  have HR := Lib.hid hr
  clear hr hc
  have T0 := Lib.hid (HB.out.trans (hB.mono HB.out.size))
  clear hB HB
  have HB := T0
  clear T0
  have HAG := Lib.hid (fun (i : Nat) (hi : i < (allR 2).length) => all_get (m := 2) d0 hi)
  have hlen : (allR 2).length = 128 := all_2
  generalize allR 2 = l at *
  generalize l.length = n at *
  have hpos : 0 < n := by omega
  obtain ⟨b, off, rfl, -⟩ := HR.out.els hpos
  have hn0 : ((n : Int) == 0) = false := by simp; omega
  have i0 := nmod_lo n0 n (by omega)
  have i1 := nmod_hi n0 n (by omega)
  have hnn : n ≤ 100000 := by omega
  clear hlen
  go_wp2_with (fail)
  refine (number_any n0 n wc HW0.out (by omega) (by omega)).mono ?_
  rintro e w' ⟨rfl, rfl⟩
  obtain ⟨q0, hq0⟩ := Int.eq_ofNat_of_zero_le i0
  rw [hq0] at i1 ⊢
  have hiq0 : q0 < n := by omega
  clear i0 hq0
  have HC0 := Lib.hid (row_at HR.out q0 hiq0)
  obtain ⟨hv, hm⟩ := HAG.out q0 hiq0
  have HV0 := Lib.hid hv
  have HM0 := Lib.hid hm
  clear hv hm
  generalize l.getD q0 d0 = r at *
  obtain ⟨rm, rc, rv, rx, rg⟩ := r
  have HG0 := Lib.hid (heap_alloc_last wc (.cells (Rt.arr ⟨rm, rc, rv, rx, rg⟩) 23))
  have T0 := Lib.hid (HB.out.alloc HB.out.size (.cells (Rt.arr ⟨rm, rc, rv, rx, rg⟩) 23))
  have T1 := Lib.hid (HR.out.below ((Below.refl wc.heap.size wc).alloc (Nat.le_refl _) (.cells (Rt.arr ⟨rm, rc, rv, rx, rg⟩) 23)))
  clear HB HR
  have HB := T0
  have HR := T1
  clear T0 T1
  go_wp2_with (refine wpList_load_mid rfl 23 (.tmp 26) rfl b (off + q0 * 5) rfl [.int .i64 rm, .int .i64 rc, .int .i64 rv, .int .i64 rx, .int .i64 rg] _ HC0.out Tryd.underlying23 rfl sizeRate ?_)
  generalize World.alloc wc _ = wd at *
  generalize wc.heap.size = g0 at *
  clear HC0
  have T0 := Shut.mk HB.out
  have T1 := Shut.mk HG0.out
  have T2 := Shut.mk HV0.out
  clear HB HG0 HV0 HM0 HR hpos hn0 hnn HAG
  have HB := T0
  have HG := T1
  have HV := T2
  clear T0 T1 T2
  have HS := Shut.mk (show -9223372036854775808 ≤ (Rt.mk rm rc rv rx rg).s ∧ (Rt.mk rm rc rv rx rg).s ≤ 9223372036854775807 by have := (valid_in HV.out).2.1; omega)
  have m0 := nmod_lo n1 4095 (by omega)
  have m1 := nmod_hi n1 4095 (by omega)
  refine (number_any n1 4095 wd HW1.out (by omega) (by omega)).mono ?_
  rintro e w' ⟨rfl, rfl⟩
  generalize nmod n1 4095 = s' at *
  go_wp2_with (fail)
  obtain ⟨S, hS⟩ : ∃ S, S = s' + 1 := ⟨_, rfl⟩
  rw [← hS]
  have HSZ := Shut.mk (show 1 ≤ S ∧ S ≤ 4095 by omega)
  clear hS m0 m1
  have T0 := Shut.mk (HB.out.alloc HB.out.size (.cells (Lm.arr ⟨64, 65535, 54840⟩) 25))
  have T1 := Shut.mk ((((Below.refl wd.heap.size wd).alloc (Nat.le_refl _) (.cells (Lm.arr ⟨64, 65535, 54840⟩) 25)).block _ (lt_blk HG.out)).trans HG.out)
  have HM := Shut.mk (heap_alloc_last wd (.cells (Lm.arr ⟨64, 65535, 54840⟩) 25))
  have HGM := Shut.mk (show w.heap.size ≤ wd.heap.size from HB.out.size)
  have HNE := Shut.mk (show g0 ≠ wd.heap.size by have := lt_blk HG.out; omega)
  clear HB HG
  have HB := T0
  have HG := T1
  clear T0 T1
  generalize World.alloc wd _ = we at *
  generalize wd.heap.size = gm at *
  have m0 := nmod_lo n2 3 (by omega)
  have m1 := nmod_hi n2 3 (by omega)
  refine (number_any n2 3 we HW2.out (by omega) (by omega)).mono ?_
  rintro e w' ⟨rfl, rfl⟩
  generalize nmod n2 3 = t at *
  have HF := Shut.mk (show (∀ P : Int, P = ppduR (Rt.mk rm rc rv rx rg) (4 + S) → fitsB (Rt.mk rm rc rv rx rg) ⟨64, 65535, P - 1⟩ [S] = false) ∧ fitsB (Rt.mk rm rc rv rx rg) ⟨64, S + 3, 54840⟩ [S] = false ∧ fitsB (Rt.mk rm rc rv rx rg) ⟨0, 65535, 54840⟩ [S] = false from
    ⟨fun P hP => by
        have := alone_ticks (r := (Rt.mk rm rc rv rx rg)) (m := ⟨64, 65535, P - 1⟩) (ls := []) HSZ.out.1 (by rw [agg_one HSZ.out.1, ← hP]; show P - 1 < P; omega)
        simpa using this,
     by have := alone_bytes (r := (Rt.mk rm rc rv rx rg)) (m := ⟨64, S + 3, 54840⟩) (s := S) (ls := []) HSZ.out.1 (by show S + 3 < 4 + S; omega)
        simpa using this,
     by have := alone_count (r := (Rt.mk rm rc rv rx rg)) (m := ⟨0, 65535, 54840⟩) (s := S) (ls := []) (by show (0 : Int) < 1; omega)
        simpa using this⟩)
  have HP := Shut.mk (ppdu_le (r := (Rt.mk rm rc rv rx rg)) (n := 4 + S))
  rcases (by omega : t = 0 ∨ t = 1 ∨ t = 2) with rfl | rfl | rfl
  · go_wp2_with (fail)
    refine wp_region_held_drew (S := fun w' => Below w.heap.size w w' ∧ w'.heap[g0]? = some (.cells (Rt.arr (Rt.mk rm rc rv rx rg)) 23)) (by kernel_rfl) ⟨HB.out.drew, HG.out⟩ (fun hHeld => ?_)
    have HM5 := Shut.mk (show (World.drew we).heap[gm]? = _ from HM.out)
    clear HB HG HM
    generalize World.drew we = w5 at *
    have HX5 := Shut.mk hHeld
    refine wpAnyH_take (i := 0) (v := .agg (Rt.arr (Rt.mk rm rc rv rx rg))) rfl (by kernel_rfl) (by kernel_rfl) (by kernel_rfl) (fun _ _ _ h => h) (yieldsIf_load_mid (by rfl) 23 (.tmp 9) rfl g0 (0) rfl ((Rt.arr (Rt.mk rm rc rv rx rg))).toList _ (fun w' hw' => block_range hw'.2) Tryd.underlying23 rfl sizeRate) (by assumption) ?_
    try simp only [Act.put, List.getElem_toArray, List.getElem_cons_zero, List.getElem_cons_succ, List.setIfInBounds_toArray, List.set_cons_zero, List.set_cons_succ]
    refine wpAnyH_take (i := 1) (v := ?_) rfl (by kernel_rfl) (by kernel_rfl) (by kernel_rfl) (fun _ _ _ h => h) (Or.inl ⟨by rfl, ?_⟩) (by assumption) ?_
    rotate_left
    · intro w hSw
      clear hSw
      go_simp
      try with_reducible rfl
    try simp only [Act.put, List.getElem_toArray, List.getElem_cons_zero, List.getElem_cons_succ, List.setIfInBounds_toArray, List.set_cons_zero, List.set_cons_succ]
    refine wpAnyH_ready (rs := [2]) (by kernel_rfl) (by simp) ?_
    refine AllReadyH.cons rfl (fun K hK => ?_) AllReadyH.nil
    go_simp
    have T0 := Shut.mk (HX5.out.1.alloc HX5.out.1.size (.cells #[.int .i64 S] 3))
    have T1 := Shut.mk ((((Below.refl w5.heap.size w5).alloc (Nat.le_refl _) (.cells #[.int .i64 S] 3)).block _ (lt_blk HX5.out.2)).trans HX5.out.2)
    have HM6 := Shut.mk ((((Below.refl w5.heap.size w5).alloc (Nat.le_refl _) (.cells #[.int .i64 S] 3)).block _ (lt_blk HM5.out)).trans HM5.out)
    have HL := Shut.mk (heap_alloc_last w5 (.cells #[.int .i64 S] 3))
    clear hHeld HX5 HM5
    refine hK.out _ _ ⟨T0.out, T1.out⟩ (fun hHeld => ?_)
    clear hK K
    obtain ⟨gl, hgl⟩ : ∃ g, g = w5.heap.size := ⟨_, rfl⟩
    rw [← hgl] at HL ⊢
    clear hgl
    generalize World.alloc w5 _ = w6 at *
    try simp only [Act.put, List.getElem_toArray, List.getElem_cons_zero, List.getElem_cons_succ, List.setIfInBounds_toArray, List.set_cons_zero, List.set_cons_succ]
    refine wpAnyH_ready (rs := [3]) (by kernel_rfl) (by simp) ?_
    refine AllReadyH.cons rfl (fun K hK => ?_) AllReadyH.nil
    go_simp
    refine (agglen_any (some ⟨gl, 0, none⟩) 1 1 [S] w6 (row_one HL.out (small (by have := HSZ.out; omega) (by have := HSZ.out; omega))) (by intro x hx; rw [List.mem_singleton.1 hx]; have := HSZ.out; omega) (by omega)).mono ?_
    rintro e' w7 ⟨rfl, rfl⟩
    rw [agg_one HSZ.out.1]
    clear hHeld HL
    refine hK.out _ _ ⟨T0.out, T1.out⟩ (fun hHeld => ?_)
    clear hK K
    try simp only [Act.put, List.getElem_toArray, List.getElem_cons_zero, List.getElem_cons_succ, List.setIfInBounds_toArray, List.set_cons_zero, List.set_cons_succ]
    refine wpAnyH_ready (rs := [4]) (by kernel_rfl) (by simp) ?_
    refine AllReadyH.cons rfl (fun K hK => ?_) AllReadyH.nil
    go_simp
    refine (refppdu_any (Rt.mk rm rc rv rx rg) (4 + S) w6 HS.out).mono ?_
    rintro e' w7 ⟨rfl, hb⟩
    have T2 := Shut.mk (T0.out.trans (hb.mono T0.out.size))
    have T3 := Shut.mk ((hb.block _ (lt_blk T1.out)).trans T1.out)
    have HM7 := Shut.mk ((hb.block _ (lt_blk HM6.out)).trans HM6.out)
    clear hb hHeld HM6 T0 T1
    refine hK.out _ _ ⟨T2.out, T3.out⟩ (fun hHeld => ?_)
    clear hK K
    have HFP := Shut.mk (HF.out.1 _ rfl)
    generalize ppduR (Rt.mk rm rc rv rx rg) (4 + S) = Q at *
    obtain ⟨hq0, hq1⟩ := HP.out
    have hwq : IntKind.i64.wrap (Q - 1) = Q - 1 := IntWalk.i64_in _ ⟨by omega, by omega⟩
    clear hq0 hq1
    try simp only [Act.put, List.getElem_toArray, List.getElem_cons_zero, List.getElem_cons_succ, List.setIfInBounds_toArray, List.set_cons_zero, List.set_cons_succ]
    refine wpAnyH_take (i := 5) (v := ?_) rfl (by kernel_rfl) (by kernel_rfl) (by kernel_rfl) (fun _ _ _ h => h) (Or.inl ⟨by rfl, ?_⟩) (by assumption) ?_
    rotate_left
    · intro w hSw
      clear hSw
      go_simp
      try with_reducible rfl
    try simp only [Act.put, List.getElem_toArray, List.getElem_cons_zero, List.getElem_cons_succ, List.setIfInBounds_toArray, List.set_cons_zero, List.set_cons_succ]
    refine wpAnyH_take (i := 6) (v := ?_) rfl (by kernel_rfl) (by kernel_rfl) (by kernel_rfl) (fun _ _ _ h => h) (Or.inl ⟨by rfl, ?_⟩) (by assumption) ?_
    rotate_left
    · intro w hSw
      clear hSw
      go_simp
      try with_reducible rfl
    try simp only [Act.put, List.getElem_toArray, List.getElem_cons_zero, List.getElem_cons_succ, List.setIfInBounds_toArray, List.set_cons_zero, List.set_cons_succ]
    refine wpAnyH_ready (rs := [7]) (by kernel_rfl) (by simp) ?_
    refine AllReadyH.cons rfl (fun K hK => ?_) AllReadyH.nil
    refine step_store_into (by rfl) 2 (.tmp 43) (.tmp 42) rfl gm 2 (.int .i64 (Q - 1)) rfl rfl rfl 25 (Lm.arr ⟨64, 65535, 54840⟩) (Lm.arr ⟨64, 65535, Q - 1⟩) HM7.out size64 (by show 2 < 3; omega) rfl ?_
    have HB := Shut.mk (set_below T2.out HGM.out (Lm.arr ⟨64, 65535, Q - 1⟩))
    have HG := Shut.mk (set_other T3.out HNE.out (Lm.arr ⟨64, 65535, Q - 1⟩))
    have HM := Shut.mk (setRow_heap w7 gm _ (Lm.arr ⟨64, 65535, Q - 1⟩) _ (0, 0) HM7.out)
    clear hHeld T2 T3 HM7
    refine hK.out _ _ ⟨HB.out, HG.out⟩ (fun hHeld => ?_)
    clear hK K hHeld hwq
    generalize World.setRow w7 gm _ = w8 at *
    try simp only [Act.put, List.getElem_toArray, List.getElem_cons_zero, List.getElem_cons_succ, List.setIfInBounds_toArray, List.set_cons_zero, List.set_cons_succ]
    refine wpAnyH_done (by kernel_rfl) ?_ _
    try simp only [Act.put, List.getElem_toArray, List.getElem_cons_zero, List.getElem_cons_succ, List.setIfInBounds_toArray, List.set_cons_zero, List.set_cons_succ]
    clear m0 m1
    have HFZ := Shut.mk HFP.out
    clear HF
    have hx0 := rt_cell (r := (Rt.mk rm rc rv rx rg)) HG.out 0
    have hx1 := rt_cell (r := (Rt.mk rm rc rv rx rg)) HG.out 1
    have hx2 := rt_cell (r := (Rt.mk rm rc rv rx rg)) HG.out 2
    have hx3 := rt_cell (r := (Rt.mk rm rc rv rx rg)) HG.out 3
    have hx4 := rt_cell (r := (Rt.mk rm rc rv rx rg)) HG.out 4
    dsimp only [Rt.arr] at hx0 hx1 hx2 hx3 hx4
    simp only [List.getElem?_toArray, List.getElem?_cons_zero, List.getElem?_cons_succ] at hx0 hx1 hx2 hx3 hx4
    have hy0 := lm_cell (m := ⟨64, 65535, Q - 1⟩) HM.out 0
    have hy1 := lm_cell (m := ⟨64, 65535, Q - 1⟩) HM.out 1
    have hy2 := lm_cell (m := ⟨64, 65535, Q - 1⟩) HM.out 2
    dsimp only [Lm.arr] at hy0 hy1 hy2
    simp only [List.getElem?_toArray, List.getElem?_cons_zero, List.getElem?_cons_succ] at hy0 hy1 hy2
    have HBa := Shut.mk (HB.out.alloc HB.out.size (.cells #[.int .i64 S, .int .i64 10] 3))
    have HGa := Shut.mk ((((Below.refl w8.heap.size w8).alloc (Nat.le_refl _) (.cells #[.int .i64 S, .int .i64 10] 3)).block _ (lt_blk HG.out)).trans HG.out)
    have HMa := Shut.mk ((((Below.refl w8.heap.size w8).alloc (Nat.le_refl _) (.cells #[.int .i64 S, .int .i64 10] 3)).block _ (lt_blk HM.out)).trans HM.out)
    have HL := Shut.mk (heap_alloc_last w8 (.cells #[.int .i64 S, .int .i64 10] 3))
    clear HB HG HM
    have HB := HBa
    have HG := HGa
    have HM := HMa
    clear HBa HGa HMa
    go_wp2_with (fail)
    clear hx0 hx1 hx2 hx3 hx4
    clear hy0 hy1 hy2
    obtain ⟨gl0, hgl⟩ : ∃ g, g = w8.heap.size := ⟨_, rfl⟩
    rw [← hgl] at HL ⊢
    clear hgl
    generalize World.alloc w8 _ = wk0 at *
    refine (choose_any (Rt.mk rm rc rv rx rg) ⟨64, 65535, Q - 1⟩ (some ⟨gl0, 0, none⟩) 2 2 [S, 10] wk0 (HT.out.below HB.out) (row_pair HL.out (small (by have := HSZ.out; omega) (by have := HSZ.out; omega)) (small (by omega) (by omega))) (Nat.le_refl _) (by omega)).mono ?_
    rintro e wl0 ⟨rfl, hB⟩
    rw [alone_fst HV.out HSZ.out HFZ.out]
    clear HL
    have T0 := Shut.mk (HB.out.trans (hB.mono HB.out.size))
    have T1 := Shut.mk ((hB.block _ (lt_blk HG.out)).trans HG.out)
    have T2 := Shut.mk ((hB.block _ (lt_blk HM.out)).trans HM.out)
    clear hB HB HG HM
    have HB := T0
    have HG := T1
    have HM := T2
    clear T0 T1 T2
    have hx0 := rt_cell (r := (Rt.mk rm rc rv rx rg)) HG.out 0
    have hx1 := rt_cell (r := (Rt.mk rm rc rv rx rg)) HG.out 1
    have hx2 := rt_cell (r := (Rt.mk rm rc rv rx rg)) HG.out 2
    have hx3 := rt_cell (r := (Rt.mk rm rc rv rx rg)) HG.out 3
    have hx4 := rt_cell (r := (Rt.mk rm rc rv rx rg)) HG.out 4
    dsimp only [Rt.arr] at hx0 hx1 hx2 hx3 hx4
    simp only [List.getElem?_toArray, List.getElem?_cons_zero, List.getElem?_cons_succ] at hx0 hx1 hx2 hx3 hx4
    have hy0 := lm_cell (m := ⟨64, 65535, Q - 1⟩) HM.out 0
    have hy1 := lm_cell (m := ⟨64, 65535, Q - 1⟩) HM.out 1
    have hy2 := lm_cell (m := ⟨64, 65535, Q - 1⟩) HM.out 2
    dsimp only [Lm.arr] at hy0 hy1 hy2
    simp only [List.getElem?_toArray, List.getElem?_cons_zero, List.getElem?_cons_succ] at hy0 hy1 hy2
    have HBa := Shut.mk (HB.out.alloc HB.out.size (.cells #[.int .i64 0] 3))
    have HGa := Shut.mk ((((Below.refl wl0.heap.size wl0).alloc (Nat.le_refl _) (.cells #[.int .i64 0] 3)).block _ (lt_blk HG.out)).trans HG.out)
    have HMa := Shut.mk ((((Below.refl wl0.heap.size wl0).alloc (Nat.le_refl _) (.cells #[.int .i64 0] 3)).block _ (lt_blk HM.out)).trans HM.out)
    have HL := Shut.mk (heap_alloc_last wl0 (.cells #[.int .i64 0] 3))
    clear HB HG HM
    have HB := HBa
    have HG := HGa
    have HM := HMa
    clear HBa HGa HMa
    go_wp2_with (fail)
    clear hx0 hx1 hx2 hx3 hx4
    clear hy0 hy1 hy2
    obtain ⟨gl1, hgl⟩ : ∃ g, g = wl0.heap.size := ⟨_, rfl⟩
    rw [← hgl] at HL ⊢
    clear hgl
    generalize World.alloc wl0 _ = wk1 at *
    refine (choose_any (Rt.mk rm rc rv rx rg) ⟨64, 65535, Q - 1⟩ (some ⟨gl1, 0, none⟩) 1 1 [0] wk1 (HT.out.below HB.out) (row_one HL.out (small (by omega) (by omega))) (Nat.le_refl _) (by omega)).mono ?_
    rintro e wl1 ⟨rfl, hB⟩
    rw [alone_none]
    clear HL
    have T0 := Shut.mk (HB.out.trans (hB.mono HB.out.size))
    have T1 := Shut.mk ((hB.block _ (lt_blk HG.out)).trans HG.out)
    have T2 := Shut.mk ((hB.block _ (lt_blk HM.out)).trans HM.out)
    clear hB HB HG HM
    have HB := T0
    have HG := T1
    have HM := T2
    clear T0 T1 T2
    have hy0 := lm_cell (m := ⟨64, 65535, Q - 1⟩) HM.out 0
    have hy1 := lm_cell (m := ⟨64, 65535, Q - 1⟩) HM.out 1
    have hy2 := lm_cell (m := ⟨64, 65535, Q - 1⟩) HM.out 2
    dsimp only [Lm.arr] at hy0 hy1 hy2
    simp only [List.getElem?_toArray, List.getElem?_cons_zero, List.getElem?_cons_succ] at hy0 hy1 hy2
    have HBa := Shut.mk (HB.out.alloc HB.out.size (.cells #[.int .i64 S] 3))
    have HGa := Shut.mk ((((Below.refl wl1.heap.size wl1).alloc (Nat.le_refl _) (.cells #[.int .i64 S] 3)).block _ (lt_blk HG.out)).trans HG.out)
    have HMa := Shut.mk ((((Below.refl wl1.heap.size wl1).alloc (Nat.le_refl _) (.cells #[.int .i64 S] 3)).block _ (lt_blk HM.out)).trans HM.out)
    have HL := Shut.mk (heap_alloc_last wl1 (.cells #[.int .i64 S] 3))
    clear HB HG HM
    have HB := HBa
    have HG := HGa
    have HM := HMa
    clear HBa HGa HMa
    go_wp2_with (fail)
    clear hy0 hy1 hy2
    obtain ⟨gl2, hgl⟩ : ∃ g, g = wl1.heap.size := ⟨_, rfl⟩
    rw [← hgl] at HL ⊢
    clear hgl
    generalize World.alloc wl1 _ = wk2 at *
    refine (choose_any ⟨0, 0, 0, 0, 0⟩ ⟨64, 65535, Q - 1⟩ (some ⟨gl2, 0, none⟩) 1 1 [S] wk2 (HT.out.below HB.out) (row_one HL.out (small (by have := HSZ.out; omega) (by have := HSZ.out; omega))) (Nat.le_refl _) (by omega)).mono ?_
    rintro e wl2 ⟨rfl, hB⟩
    rw [alone_rate]
    clear HL
    have T0 := Shut.mk (HB.out.trans (hB.mono HB.out.size))
    have T1 := Shut.mk ((hB.block _ (lt_blk HG.out)).trans HG.out)
    have T2 := Shut.mk ((hB.block _ (lt_blk HM.out)).trans HM.out)
    clear hB HB HG HM
    have HB := T0
    have HG := T1
    have HM := T2
    clear T0 T1 T2
    go_wp2_with (fail)
    go_ret
    exact ⟨rfl, HB.out⟩
  · have hs3 : IntKind.i64.wrap (S + 3) = S + 3 := IntWalk.i64_in _ ⟨by have := HSZ.out; omega, by have := HSZ.out; omega⟩
    have hsa := HSZ.out.1
    have hsb := HSZ.out.2
    have HBs := Shut.mk (set_below HB.out HGM.out (Lm.arr ⟨64, S + 3, 54840⟩))
    have HGs := Shut.mk (set_other HG.out HNE.out (Lm.arr ⟨64, S + 3, 54840⟩))
    have HMs := Shut.mk (setRow_heap we gm _ (Lm.arr ⟨64, S + 3, 54840⟩) _ (0, 0) HM.out)
    have HM0 := HM
    clear HB HG HM
    have HB := HBs
    have HG := HGs
    have HM := HMs
    clear HBs HGs HMs
    obtain ⟨wg, hwg⟩ : ∃ wg, wg = we.setRow gm (Lm.arr ⟨64, S + 3, 54840⟩) := ⟨_, rfl⟩
    rw [← hwg] at HB HG HM
    have HWG := Shut.mk hwg.symm
    clear hwg m0 m1
    have HFZ := Shut.mk HF.out.2.1
    clear HF
    have hx0 := rt_cell (r := (Rt.mk rm rc rv rx rg)) HG.out 0
    have hx1 := rt_cell (r := (Rt.mk rm rc rv rx rg)) HG.out 1
    have hx2 := rt_cell (r := (Rt.mk rm rc rv rx rg)) HG.out 2
    have hx3 := rt_cell (r := (Rt.mk rm rc rv rx rg)) HG.out 3
    have hx4 := rt_cell (r := (Rt.mk rm rc rv rx rg)) HG.out 4
    dsimp only [Rt.arr] at hx0 hx1 hx2 hx3 hx4
    simp only [List.getElem?_toArray, List.getElem?_cons_zero, List.getElem?_cons_succ] at hx0 hx1 hx2 hx3 hx4
    have hy0 := lm_cell (m := ⟨64, S + 3, 54840⟩) HM.out 0
    have hy1 := lm_cell (m := ⟨64, S + 3, 54840⟩) HM.out 1
    have hy2 := lm_cell (m := ⟨64, S + 3, 54840⟩) HM.out 2
    dsimp only [Lm.arr] at hy0 hy1 hy2
    simp only [List.getElem?_toArray, List.getElem?_cons_zero, List.getElem?_cons_succ] at hy0 hy1 hy2
    have HBa := Shut.mk (HB.out.alloc HB.out.size (.cells #[.int .i64 S, .int .i64 10] 3))
    have HGa := Shut.mk ((((Below.refl wg.heap.size wg).alloc (Nat.le_refl _) (.cells #[.int .i64 S, .int .i64 10] 3)).block _ (lt_blk HG.out)).trans HG.out)
    have HMa := Shut.mk ((((Below.refl wg.heap.size wg).alloc (Nat.le_refl _) (.cells #[.int .i64 S, .int .i64 10] 3)).block _ (lt_blk HM.out)).trans HM.out)
    have HL := Shut.mk (heap_alloc_last wg (.cells #[.int .i64 S, .int .i64 10] 3))
    clear HB HG HM
    have HB := HBa
    have HG := HGa
    have HM := HMa
    clear HBa HGa HMa
    go_wp2_with (first
      | (refine wpList_store_into (by rfl) 3 (.tmp 48) _ rfl gm 1 (.int .i64 (S + 3)) rfl rfl rfl 25 (Lm.arr ⟨64, 65535, 54840⟩) (Lm.arr ⟨64, S + 3, 54840⟩) HM0.out size1i (by show 1 < 3; omega) rfl ?_
         rw [HWG.out]
         clear HWG HM0))
    clear hs3 hsa hsb
    clear hx0 hx1 hx2 hx3 hx4
    clear hy0 hy1 hy2
    obtain ⟨gl0, hgl⟩ : ∃ g, g = wg.heap.size := ⟨_, rfl⟩
    rw [← hgl] at HL ⊢
    clear hgl
    generalize World.alloc wg _ = wk0 at *
    refine (choose_any (Rt.mk rm rc rv rx rg) ⟨64, S + 3, 54840⟩ (some ⟨gl0, 0, none⟩) 2 2 [S, 10] wk0 (HT.out.below HB.out) (row_pair HL.out (small (by have := HSZ.out; omega) (by have := HSZ.out; omega)) (small (by omega) (by omega))) (Nat.le_refl _) (by omega)).mono ?_
    rintro e wl0 ⟨rfl, hB⟩
    rw [alone_fst HV.out HSZ.out HFZ.out]
    clear HL
    have T0 := Shut.mk (HB.out.trans (hB.mono HB.out.size))
    have T1 := Shut.mk ((hB.block _ (lt_blk HG.out)).trans HG.out)
    have T2 := Shut.mk ((hB.block _ (lt_blk HM.out)).trans HM.out)
    clear hB HB HG HM
    have HB := T0
    have HG := T1
    have HM := T2
    clear T0 T1 T2
    have hx0 := rt_cell (r := (Rt.mk rm rc rv rx rg)) HG.out 0
    have hx1 := rt_cell (r := (Rt.mk rm rc rv rx rg)) HG.out 1
    have hx2 := rt_cell (r := (Rt.mk rm rc rv rx rg)) HG.out 2
    have hx3 := rt_cell (r := (Rt.mk rm rc rv rx rg)) HG.out 3
    have hx4 := rt_cell (r := (Rt.mk rm rc rv rx rg)) HG.out 4
    dsimp only [Rt.arr] at hx0 hx1 hx2 hx3 hx4
    simp only [List.getElem?_toArray, List.getElem?_cons_zero, List.getElem?_cons_succ] at hx0 hx1 hx2 hx3 hx4
    have hy0 := lm_cell (m := ⟨64, S + 3, 54840⟩) HM.out 0
    have hy1 := lm_cell (m := ⟨64, S + 3, 54840⟩) HM.out 1
    have hy2 := lm_cell (m := ⟨64, S + 3, 54840⟩) HM.out 2
    dsimp only [Lm.arr] at hy0 hy1 hy2
    simp only [List.getElem?_toArray, List.getElem?_cons_zero, List.getElem?_cons_succ] at hy0 hy1 hy2
    have HBa := Shut.mk (HB.out.alloc HB.out.size (.cells #[.int .i64 0] 3))
    have HGa := Shut.mk ((((Below.refl wl0.heap.size wl0).alloc (Nat.le_refl _) (.cells #[.int .i64 0] 3)).block _ (lt_blk HG.out)).trans HG.out)
    have HMa := Shut.mk ((((Below.refl wl0.heap.size wl0).alloc (Nat.le_refl _) (.cells #[.int .i64 0] 3)).block _ (lt_blk HM.out)).trans HM.out)
    have HL := Shut.mk (heap_alloc_last wl0 (.cells #[.int .i64 0] 3))
    clear HB HG HM
    have HB := HBa
    have HG := HGa
    have HM := HMa
    clear HBa HGa HMa
    go_wp2_with (fail)
    clear hx0 hx1 hx2 hx3 hx4
    clear hy0 hy1 hy2
    obtain ⟨gl1, hgl⟩ : ∃ g, g = wl0.heap.size := ⟨_, rfl⟩
    rw [← hgl] at HL ⊢
    clear hgl
    generalize World.alloc wl0 _ = wk1 at *
    refine (choose_any (Rt.mk rm rc rv rx rg) ⟨64, S + 3, 54840⟩ (some ⟨gl1, 0, none⟩) 1 1 [0] wk1 (HT.out.below HB.out) (row_one HL.out (small (by omega) (by omega))) (Nat.le_refl _) (by omega)).mono ?_
    rintro e wl1 ⟨rfl, hB⟩
    rw [alone_none]
    clear HL
    have T0 := Shut.mk (HB.out.trans (hB.mono HB.out.size))
    have T1 := Shut.mk ((hB.block _ (lt_blk HG.out)).trans HG.out)
    have T2 := Shut.mk ((hB.block _ (lt_blk HM.out)).trans HM.out)
    clear hB HB HG HM
    have HB := T0
    have HG := T1
    have HM := T2
    clear T0 T1 T2
    have hy0 := lm_cell (m := ⟨64, S + 3, 54840⟩) HM.out 0
    have hy1 := lm_cell (m := ⟨64, S + 3, 54840⟩) HM.out 1
    have hy2 := lm_cell (m := ⟨64, S + 3, 54840⟩) HM.out 2
    dsimp only [Lm.arr] at hy0 hy1 hy2
    simp only [List.getElem?_toArray, List.getElem?_cons_zero, List.getElem?_cons_succ] at hy0 hy1 hy2
    have HBa := Shut.mk (HB.out.alloc HB.out.size (.cells #[.int .i64 S] 3))
    have HGa := Shut.mk ((((Below.refl wl1.heap.size wl1).alloc (Nat.le_refl _) (.cells #[.int .i64 S] 3)).block _ (lt_blk HG.out)).trans HG.out)
    have HMa := Shut.mk ((((Below.refl wl1.heap.size wl1).alloc (Nat.le_refl _) (.cells #[.int .i64 S] 3)).block _ (lt_blk HM.out)).trans HM.out)
    have HL := Shut.mk (heap_alloc_last wl1 (.cells #[.int .i64 S] 3))
    clear HB HG HM
    have HB := HBa
    have HG := HGa
    have HM := HMa
    clear HBa HGa HMa
    go_wp2_with (fail)
    clear hy0 hy1 hy2
    obtain ⟨gl2, hgl⟩ : ∃ g, g = wl1.heap.size := ⟨_, rfl⟩
    rw [← hgl] at HL ⊢
    clear hgl
    generalize World.alloc wl1 _ = wk2 at *
    refine (choose_any ⟨0, 0, 0, 0, 0⟩ ⟨64, S + 3, 54840⟩ (some ⟨gl2, 0, none⟩) 1 1 [S] wk2 (HT.out.below HB.out) (row_one HL.out (small (by have := HSZ.out; omega) (by have := HSZ.out; omega))) (Nat.le_refl _) (by omega)).mono ?_
    rintro e wl2 ⟨rfl, hB⟩
    rw [alone_rate]
    clear HL
    have T0 := Shut.mk (HB.out.trans (hB.mono HB.out.size))
    have T1 := Shut.mk ((hB.block _ (lt_blk HG.out)).trans HG.out)
    have T2 := Shut.mk ((hB.block _ (lt_blk HM.out)).trans HM.out)
    clear hB HB HG HM
    have HB := T0
    have HG := T1
    have HM := T2
    clear T0 T1 T2
    go_wp2_with (fail)
    go_ret
    exact ⟨rfl, HB.out⟩
  · have HBs := Shut.mk (set_below HB.out HGM.out (Lm.arr ⟨0, 65535, 54840⟩))
    have HGs := Shut.mk (set_other HG.out HNE.out (Lm.arr ⟨0, 65535, 54840⟩))
    have HMs := Shut.mk (setRow_heap we gm _ (Lm.arr ⟨0, 65535, 54840⟩) _ (0, 0) HM.out)
    have HM0 := HM
    clear HB HG HM
    have HB := HBs
    have HG := HGs
    have HM := HMs
    clear HBs HGs HMs
    obtain ⟨wg, hwg⟩ : ∃ wg, wg = we.setRow gm (Lm.arr ⟨0, 65535, 54840⟩) := ⟨_, rfl⟩
    rw [← hwg] at HB HG HM
    have HWG := Shut.mk hwg.symm
    clear hwg m0 m1
    have HFZ := Shut.mk HF.out.2.2
    clear HF
    have hx0 := rt_cell (r := (Rt.mk rm rc rv rx rg)) HG.out 0
    have hx1 := rt_cell (r := (Rt.mk rm rc rv rx rg)) HG.out 1
    have hx2 := rt_cell (r := (Rt.mk rm rc rv rx rg)) HG.out 2
    have hx3 := rt_cell (r := (Rt.mk rm rc rv rx rg)) HG.out 3
    have hx4 := rt_cell (r := (Rt.mk rm rc rv rx rg)) HG.out 4
    dsimp only [Rt.arr] at hx0 hx1 hx2 hx3 hx4
    simp only [List.getElem?_toArray, List.getElem?_cons_zero, List.getElem?_cons_succ] at hx0 hx1 hx2 hx3 hx4
    have hy0 := lm_cell (m := ⟨0, 65535, 54840⟩) HM.out 0
    have hy1 := lm_cell (m := ⟨0, 65535, 54840⟩) HM.out 1
    have hy2 := lm_cell (m := ⟨0, 65535, 54840⟩) HM.out 2
    dsimp only [Lm.arr] at hy0 hy1 hy2
    simp only [List.getElem?_toArray, List.getElem?_cons_zero, List.getElem?_cons_succ] at hy0 hy1 hy2
    have HBa := Shut.mk (HB.out.alloc HB.out.size (.cells #[.int .i64 S, .int .i64 10] 3))
    have HGa := Shut.mk ((((Below.refl wg.heap.size wg).alloc (Nat.le_refl _) (.cells #[.int .i64 S, .int .i64 10] 3)).block _ (lt_blk HG.out)).trans HG.out)
    have HMa := Shut.mk ((((Below.refl wg.heap.size wg).alloc (Nat.le_refl _) (.cells #[.int .i64 S, .int .i64 10] 3)).block _ (lt_blk HM.out)).trans HM.out)
    have HL := Shut.mk (heap_alloc_last wg (.cells #[.int .i64 S, .int .i64 10] 3))
    clear HB HG HM
    have HB := HBa
    have HG := HGa
    have HM := HMa
    clear HBa HGa HMa
    go_wp2_with (first
      | (refine wpList_store_into (by rfl) 3 (.tmp 34) _ rfl gm 0 (.int .i64 0) rfl rfl rfl 25 (Lm.arr ⟨64, 65535, 54840⟩) (Lm.arr ⟨0, 65535, 54840⟩) HM0.out size1i (by show 0 < 3; omega) rfl ?_
         rw [HWG.out]
         clear HWG HM0))
    clear hx0 hx1 hx2 hx3 hx4
    clear hy0 hy1 hy2
    obtain ⟨gl0, hgl⟩ : ∃ g, g = wg.heap.size := ⟨_, rfl⟩
    rw [← hgl] at HL ⊢
    clear hgl
    generalize World.alloc wg _ = wk0 at *
    refine (choose_any (Rt.mk rm rc rv rx rg) ⟨0, 65535, 54840⟩ (some ⟨gl0, 0, none⟩) 2 2 [S, 10] wk0 (HT.out.below HB.out) (row_pair HL.out (small (by have := HSZ.out; omega) (by have := HSZ.out; omega)) (small (by omega) (by omega))) (Nat.le_refl _) (by omega)).mono ?_
    rintro e wl0 ⟨rfl, hB⟩
    rw [alone_fst HV.out HSZ.out HFZ.out]
    clear HL
    have T0 := Shut.mk (HB.out.trans (hB.mono HB.out.size))
    have T1 := Shut.mk ((hB.block _ (lt_blk HG.out)).trans HG.out)
    have T2 := Shut.mk ((hB.block _ (lt_blk HM.out)).trans HM.out)
    clear hB HB HG HM
    have HB := T0
    have HG := T1
    have HM := T2
    clear T0 T1 T2
    have hx0 := rt_cell (r := (Rt.mk rm rc rv rx rg)) HG.out 0
    have hx1 := rt_cell (r := (Rt.mk rm rc rv rx rg)) HG.out 1
    have hx2 := rt_cell (r := (Rt.mk rm rc rv rx rg)) HG.out 2
    have hx3 := rt_cell (r := (Rt.mk rm rc rv rx rg)) HG.out 3
    have hx4 := rt_cell (r := (Rt.mk rm rc rv rx rg)) HG.out 4
    dsimp only [Rt.arr] at hx0 hx1 hx2 hx3 hx4
    simp only [List.getElem?_toArray, List.getElem?_cons_zero, List.getElem?_cons_succ] at hx0 hx1 hx2 hx3 hx4
    have hy0 := lm_cell (m := ⟨0, 65535, 54840⟩) HM.out 0
    have hy1 := lm_cell (m := ⟨0, 65535, 54840⟩) HM.out 1
    have hy2 := lm_cell (m := ⟨0, 65535, 54840⟩) HM.out 2
    dsimp only [Lm.arr] at hy0 hy1 hy2
    simp only [List.getElem?_toArray, List.getElem?_cons_zero, List.getElem?_cons_succ] at hy0 hy1 hy2
    have HBa := Shut.mk (HB.out.alloc HB.out.size (.cells #[.int .i64 0] 3))
    have HGa := Shut.mk ((((Below.refl wl0.heap.size wl0).alloc (Nat.le_refl _) (.cells #[.int .i64 0] 3)).block _ (lt_blk HG.out)).trans HG.out)
    have HMa := Shut.mk ((((Below.refl wl0.heap.size wl0).alloc (Nat.le_refl _) (.cells #[.int .i64 0] 3)).block _ (lt_blk HM.out)).trans HM.out)
    have HL := Shut.mk (heap_alloc_last wl0 (.cells #[.int .i64 0] 3))
    clear HB HG HM
    have HB := HBa
    have HG := HGa
    have HM := HMa
    clear HBa HGa HMa
    go_wp2_with (fail)
    clear hx0 hx1 hx2 hx3 hx4
    clear hy0 hy1 hy2
    obtain ⟨gl1, hgl⟩ : ∃ g, g = wl0.heap.size := ⟨_, rfl⟩
    rw [← hgl] at HL ⊢
    clear hgl
    generalize World.alloc wl0 _ = wk1 at *
    refine (choose_any (Rt.mk rm rc rv rx rg) ⟨0, 65535, 54840⟩ (some ⟨gl1, 0, none⟩) 1 1 [0] wk1 (HT.out.below HB.out) (row_one HL.out (small (by omega) (by omega))) (Nat.le_refl _) (by omega)).mono ?_
    rintro e wl1 ⟨rfl, hB⟩
    rw [alone_none]
    clear HL
    have T0 := Shut.mk (HB.out.trans (hB.mono HB.out.size))
    have T1 := Shut.mk ((hB.block _ (lt_blk HG.out)).trans HG.out)
    have T2 := Shut.mk ((hB.block _ (lt_blk HM.out)).trans HM.out)
    clear hB HB HG HM
    have HB := T0
    have HG := T1
    have HM := T2
    clear T0 T1 T2
    have hy0 := lm_cell (m := ⟨0, 65535, 54840⟩) HM.out 0
    have hy1 := lm_cell (m := ⟨0, 65535, 54840⟩) HM.out 1
    have hy2 := lm_cell (m := ⟨0, 65535, 54840⟩) HM.out 2
    dsimp only [Lm.arr] at hy0 hy1 hy2
    simp only [List.getElem?_toArray, List.getElem?_cons_zero, List.getElem?_cons_succ] at hy0 hy1 hy2
    have HBa := Shut.mk (HB.out.alloc HB.out.size (.cells #[.int .i64 S] 3))
    have HGa := Shut.mk ((((Below.refl wl1.heap.size wl1).alloc (Nat.le_refl _) (.cells #[.int .i64 S] 3)).block _ (lt_blk HG.out)).trans HG.out)
    have HMa := Shut.mk ((((Below.refl wl1.heap.size wl1).alloc (Nat.le_refl _) (.cells #[.int .i64 S] 3)).block _ (lt_blk HM.out)).trans HM.out)
    have HL := Shut.mk (heap_alloc_last wl1 (.cells #[.int .i64 S] 3))
    clear HB HG HM
    have HB := HBa
    have HG := HGa
    have HM := HMa
    clear HBa HGa HMa
    go_wp2_with (fail)
    clear hy0 hy1 hy2
    obtain ⟨gl2, hgl⟩ : ∃ g, g = wl1.heap.size := ⟨_, rfl⟩
    rw [← hgl] at HL ⊢
    clear hgl
    generalize World.alloc wl1 _ = wk2 at *
    refine (choose_any ⟨0, 0, 0, 0, 0⟩ ⟨0, 65535, 54840⟩ (some ⟨gl2, 0, none⟩) 1 1 [S] wk2 (HT.out.below HB.out) (row_one HL.out (small (by have := HSZ.out; omega) (by have := HSZ.out; omega))) (Nat.le_refl _) (by omega)).mono ?_
    rintro e wl2 ⟨rfl, hB⟩
    rw [alone_rate]
    clear HL
    have T0 := Shut.mk (HB.out.trans (hB.mono HB.out.size))
    have T1 := Shut.mk ((hB.block _ (lt_blk HG.out)).trans HG.out)
    have T2 := Shut.mk ((hB.block _ (lt_blk HM.out)).trans HM.out)
    clear hB HB HG HM
    have HB := T0
    have HG := T1
    have HM := T2
    clear T0 T1 T2
    go_wp2_with (fail)
    go_ret
    exact ⟨rfl, HB.out⟩

end Go.Proofs.YtlkoleannlpflaaDoor.buildAlone
