/-
  CONTRACTS of the reference's Choose, of the chapter's examples.
-/
import Derived.Test.YtlkoleannlpflaaDoorBuildE
import Derived.Deep.RegionHeld3
namespace Go.Proofs.YtlkoleannlpflaaDoor
open Go.ChangeShapes Go.WideShapes Go.ChangeAt Go.RowKit Go.Deep
set_option linter.unusedVariables false
set_option linter.unusedSimpArgs false

set_option maxRecDepth 100000 in
set_option maxHeartbeats 8000000 in
theorem refchoose_any (r : Rt) (m : Lm) (A : Option Addr) (n c : Nat) (xs : List Int) (w : World) (hs : -9223372036854775808 ≤ r.s ∧ r.s ≤ 9223372036854775807) (h : RowB .i64 w A n xs) (hc : n ≤ c) (hn : n ≤ 1000000) :
    Calls Tryd.prog 9 #[r.val, m.val, .slice A n c] w fun e w' => e = .returned (chV r m xs) ∧ Below w.heap.size w w' := by
  have HSB := Shut.mk hs
  have HR := Shut.mk h
  have HC := Shut.mk hc
  have HN := Shut.mk hn
  clear hs h hc hn
  obtain ⟨hg, hm, hb⟩ := two_last w (.cells r.arr 23) (.cells m.arr 31)
  have HB := Shut.mk hb
  have HG := Shut.mk hg
  have HM := Shut.mk hm
  clear hg hm hb
  go_enter Tryd.func9, Tryd.ntmps9
  go_wp2_with (fail)
  generalize World.alloc (World.alloc w _) _ = w2 at *
  go_loopw [8] (fun i wr => ∃ k : Nat, k ≤ n ∧ i = .int .i64 k ∧ (∀ j, 1 ≤ j → j ≤ k → fitsB r m (xs.take j) = true) ∧ Below w2.heap.size w2 wr) (fun i _ => n - (intOf i).toNat)
  case atStart => exact ⟨0, Nat.zero_le _, rfl, fun j h1 h2 => by omega, Below.refl _ _⟩
  case round =>
    obtain ⟨k, hk, rfl, hall, hb⟩ := hrel
    have HA := Shut.mk hall
    have T1 := Shut.mk ((hb.block _ (lt_blk HG.out)).trans HG.out)
    have T2 := Shut.mk ((hb.block _ (lt_blk HM.out)).trans HM.out)
    have HB2 := Shut.mk hb
    have T3 := Shut.mk (HB.out.trans (hb.mono HB.out.size))
    clear hall hb HG HM HB
    have HG := T1
    have HM := T2
    have HB := T3
    clear T1 T2 T3
    by_cases hlt : k < n
    · obtain ⟨b, off, rfl, hel⟩ := HR.out.cells (by omega)
      clear hel
      have HG' := Shut.mk (fun (w' : World) (hB : Below wr.heap.size wr w') => (hB.block _ (lt_blk HG.out)).trans HG.out)
      have HM' := Shut.mk (fun (w' : World) (hB : Below wr.heap.size wr w') => (hB.block _ (lt_blk HM.out)).trans HM.out)
      obtain ⟨q, hq⟩ : ∃ q, q = k + 1 := ⟨_, rfl⟩
      have HF := Shut.mk (fun (w' : World) (hB : Below wr.heap.size wr w') => reffits_any r m (some ⟨b, off, none⟩) q c (xs.take q) w' HSB.out (((HR.out.below HB.out).below hB).first q (by omega)))
      have hw1 : IntKind.i64.wrap ((k : Int) + 1) = (q : Int) := by rw [IntWalk.i64_in _ ⟨by have := HN.out; omega, by have := HN.out; omega⟩]; omega
      have hqc : q ≤ c := by have := HC.out; omega
      have hqc2 : (q : Int) ≤ (c : Int) := by omega
      have e0 : decide ((k : Int) < (n : Int)) = true := by simp; omega
      have e1 : decide (k < n) = true := by simp; omega
      have HQ := Shut.mk hq
      clear hq
      go_wp2_with (fail)
      refine wp_region_held_drew (S := fun w' => Below wr.heap.size wr w') (by kernel_rfl) (Below.refl _ _).drew (fun hHeld => ?_)
      generalize World.drew wr = w5 at *
      have HB5 := Lib.hid hHeld
      refine wpAnyH_take (i := 0) (v := ?_) rfl (by kernel_rfl) (by kernel_rfl) (by kernel_rfl) (fun _ _ _ h => h) (Or.inl ⟨by rfl, ?_⟩) (by assumption) ?_
      rotate_left
      · intro w hSw
        clear hSw
        go_simp
        try with_reducible rfl
      try simp only [Act.put, List.getElem_toArray, List.getElem_cons_zero, List.getElem_cons_succ, List.setIfInBounds_toArray, List.set_cons_zero, List.set_cons_succ]
      refine wpAnyH_take (i := 1) (v := ?_) rfl (by kernel_rfl) (by kernel_rfl) (by kernel_rfl) (fun _ _ _ h => h) (Or.inl ⟨by rfl, ?_⟩) (by assumption) ?_
      rotate_left
      · intro w hSw
        clear hSw
        go_simp
        try with_reducible rfl
      try simp only [Act.put, List.getElem_toArray, List.getElem_cons_zero, List.getElem_cons_succ, List.setIfInBounds_toArray, List.set_cons_zero, List.set_cons_succ]
      refine wpAnyH_take (i := 2) (v := ?_) rfl (by kernel_rfl) (by kernel_rfl) (by kernel_rfl) (fun _ _ _ h => h) (Or.inl ⟨by rfl, ?_⟩) (by assumption) ?_
      rotate_left
      · intro w hSw
        clear hSw
        go_simp
        try with_reducible rfl
      try simp only [Act.put, List.getElem_toArray, List.getElem_cons_zero, List.getElem_cons_succ, List.setIfInBounds_toArray, List.set_cons_zero, List.set_cons_succ]
      refine wpAnyH_take (i := 3) (v := ?_) rfl (by kernel_rfl) (by kernel_rfl) (by kernel_rfl) (fun _ _ _ h => h) (Or.inl ⟨by rfl, ?_⟩) (by assumption) ?_
      rotate_left
      · intro w hSw
        clear hSw
        go_simp
        try with_reducible rfl
      try simp only [Act.put, List.getElem_toArray, List.getElem_cons_zero, List.getElem_cons_succ, List.setIfInBounds_toArray, List.set_cons_zero, List.set_cons_succ]
      refine wpAnyH_take (i := 4) (v := ?_) rfl (by kernel_rfl) (by kernel_rfl) (by kernel_rfl) (fun _ _ _ h => h) (Or.inl ⟨by rfl, ?_⟩) (by assumption) ?_
      rotate_left
      · intro w hSw
        clear hSw
        go_simp
        try with_reducible rfl
      try simp only [Act.put, List.getElem_toArray, List.getElem_cons_zero, List.getElem_cons_succ, List.setIfInBounds_toArray, List.set_cons_zero, List.set_cons_succ]
      refine wpAnyH_take (i := 5) (v := .agg (Rt.arr r)) rfl (by kernel_rfl) (by kernel_rfl) (by kernel_rfl) (fun _ _ _ h => h) (yieldsIf_load_mid (by rfl) 23 (.tmp 3) rfl w.heap.size (0) rfl ((Rt.arr r)).toList _ (fun w' hw' => block_range (HG'.out w' hw')) Tryd.underlying23 rfl sizeRate) (by assumption) ?_
      try simp only [Act.put, List.getElem_toArray, List.getElem_cons_zero, List.getElem_cons_succ, List.setIfInBounds_toArray, List.set_cons_zero, List.set_cons_succ]
      refine wpAnyH_take (i := 6) (v := .agg (Lm.arr m)) rfl (by kernel_rfl) (by kernel_rfl) (by kernel_rfl) (fun _ _ _ h => h) (yieldsIf_load_mid (by rfl) 31 (.tmp 4) rfl (w.heap.size + 1) (0) rfl ((Lm.arr m)).toList _ (fun w' hw' => block_range (HM'.out w' hw')) Tryd.underlying31 rfl sizeLim2) (by assumption) ?_
      try simp only [Act.put, List.getElem_toArray, List.getElem_cons_zero, List.getElem_cons_succ, List.setIfInBounds_toArray, List.set_cons_zero, List.set_cons_succ]
      refine wpAnyH_take (i := 7) (v := ?_) rfl (by kernel_rfl) (by kernel_rfl) (by kernel_rfl) (fun _ _ _ h => h) (Or.inl ⟨by rfl, ?_⟩) (by assumption) ?_
      rotate_left
      · intro w hSw
        clear hSw
        go_simp
        try with_reducible rfl
      try simp only [Act.put, List.getElem_toArray, List.getElem_cons_zero, List.getElem_cons_succ, List.setIfInBounds_toArray, List.set_cons_zero, List.set_cons_succ]
      refine wpAnyH_take (i := 8) (v := ?_) rfl (by kernel_rfl) (by kernel_rfl) (by kernel_rfl) (fun _ _ _ h => h) (Or.inl ⟨by rfl, ?_⟩) (by assumption) ?_
      rotate_left
      · intro w hSw
        clear hSw
        go_simp
        try with_reducible rfl
      try simp only [Act.put, List.getElem_toArray, List.getElem_cons_zero, List.getElem_cons_succ, List.setIfInBounds_toArray, List.set_cons_zero, List.set_cons_succ]
      refine wpAnyH_take (i := 9) (v := ?_) rfl (by kernel_rfl) (by kernel_rfl) (by kernel_rfl) (fun _ _ _ h => h) (Or.inl ⟨by rfl, ?_⟩) (by assumption) ?_
      rotate_left
      · intro w hSw
        clear hSw
        go_simp
        try with_reducible rfl
      try simp only [Act.put, List.getElem_toArray, List.getElem_cons_zero, List.getElem_cons_succ, List.setIfInBounds_toArray, List.set_cons_zero, List.set_cons_succ]
      refine wpAnyH_take (i := 10) (v := ?_) rfl (by kernel_rfl) (by kernel_rfl) (by kernel_rfl) (fun _ _ _ h => h) (Or.inl ⟨by rfl, ?_⟩) (by assumption) ?_
      rotate_left
      · intro w hSw
        clear hSw
        go_simp
        try with_reducible rfl
      try simp only [Act.put, List.getElem_toArray, List.getElem_cons_zero, List.getElem_cons_succ, List.setIfInBounds_toArray, List.set_cons_zero, List.set_cons_succ]
      refine wpAnyH_ready (rs := [11]) (by kernel_rfl) (by simp) ?_
      refine AllReadyH.cons rfl (fun K hK => ?_) AllReadyH.nil
      go_simp
      refine (HF.out w5 HB5.out).mono ?_
      rintro e' w6 ⟨rfl, hb⟩
      have HB6 := Lib.hid (HB5.out.trans (hb.mono HB5.out.size))
      clear hb hHeld HB5
      refine hK.out _ _ HB6.out (fun hHeld => ?_)
      clear hK K
      try simp only [Act.put, List.getElem_toArray, List.getElem_cons_zero, List.getElem_cons_succ, List.setIfInBounds_toArray, List.set_cons_zero, List.set_cons_succ]
      refine wpAnyH_take (i := 12) (v := ?_) rfl (by kernel_rfl) (by kernel_rfl) (by kernel_rfl) (fun _ _ _ h => h) (Or.inl ⟨by rfl, ?_⟩) (by assumption) ?_
      rotate_left
      · intro w hSw
        clear hSw
        go_simp
        try with_reducible rfl
      try simp only [Act.put, List.getElem_toArray, List.getElem_cons_zero, List.getElem_cons_succ, List.setIfInBounds_toArray, List.set_cons_zero, List.set_cons_succ]
      refine wpAnyH_done (by kernel_rfl) ?_ _
      try simp only [Act.put, List.getElem_toArray, List.getElem_cons_zero, List.getElem_cons_succ, List.setIfInBounds_toArray, List.set_cons_zero, List.set_cons_succ]
      have HBe := Shut.mk (HB2.out.trans (HB6.out.mono HB2.out.size))
      have HBw := Shut.mk (HB.out.trans (HB6.out.mono HB.out.size))
      have HGe := Shut.mk (HG'.out _ HB6.out)
      have HMe := Shut.mk (HM'.out _ HB6.out)
      cases hf : fitsB r m (xs.take q)
      · have HK := Shut.mk (show manyB r m xs = k from many_one ⟨by rw [HR.out.len]; omega, HA.out, .inr (by rw [← HQ.out]; exact hf)⟩)
        clear e0 e1 hw1 hqc hqc2 hf
        have HK0 := HK
        by_cases h0 : 0 < k
        · have e0 : decide ((0 : Int) < (k : Int)) = true := by simpa using h0
          have e1 : decide (0 < k) = true := by simpa using h0
          have HV := Shut.mk (chv_many HK.out h0).symm
          clear h0
          go_wp2_with (fail)
          go_ret2
          exact ⟨ret_tt HV.out.symm, HBw.out⟩
        have e0 : decide ((0 : Int) < (k : Int)) = false := by simp; omega
        have e1 : decide (0 < k) = false := by simp; omega
        have HK := Shut.mk (show manyB r m xs = 0 by rw [HK.out]; omega)
        clear h0
        have e2 : decide ((0 : Int) < (n : Int)) = true := by simp; omega
        have e3 : decide (0 < n) = true := by simp; omega
        have HN0 := Shut.mk (show 0 < xs.length by rw [HR.out.len]; omega)
        have HRX := Shut.mk (show RowB .i64 w6 (some ⟨b, off, none⟩) n xs from HR.out.below HBw.out)
        have hn1 : (0 : Int) < (n : Int) := by omega
        have HG := HGe
        have hx0 := rt_cell (r := r) HG.out 0
        have hx1 := rt_cell (r := r) HG.out 1
        have hx2 := rt_cell (r := r) HG.out 2
        have hx3 := rt_cell (r := r) HG.out 3
        have hx4 := rt_cell (r := r) HG.out 4
        dsimp only [Rt.arr] at hx0 hx1 hx2 hx3 hx4
        simp only [List.getElem?_toArray, List.getElem?_cons_zero, List.getElem?_cons_succ] at hx0 hx1 hx2 hx3 hx4
        go_wp2_with (fail)
        clear hx0 hx1 hx2 hx3 hx4
        refine (refvalid_any r w6 HSB.out).mono ?_
        rintro e w9 ⟨rfl, hB⟩
        have HBx := Shut.mk (HBw.out.trans (hB.mono HBw.out.size))
        obtain ⟨b', off', hbb, hel⟩ := (HRX.out.below hB).cells (by omega)
        cases hbb
        have hel0 := hel 0 (by omega)
        clear hel hB
        cases hv : validR r
        · have HV := Shut.mk (chv_none HK.out (alone_no2 hv)).symm
          go_wp2_with (fail)
          go_ret2
          exact ⟨ret_tt HV.out.symm, HBx.out⟩
        have HAL := Shut.mk (alone_is HN0.out hv)
        have hwf := HR.out.w64 0 (by omega)
        generalize xs.getD 0 0 = x at *
        rw [Nat.add_zero] at hel0
        clear hv
        cases d1 : decide (1 ≤ x)
        · have d1' : decide (0 < x) = false := by simp at d1 ⊢; omega
          have HV := Shut.mk (chv_none HK.out (by rw [HAL.out]; unfold lenOk; rw [d1]; rfl)).symm
          go_wp2_with (fail)
          go_ret2
          exact ⟨ret_tt HV.out.symm, HBx.out⟩
        have d1' : decide (0 < x) = true := by simp at d1 ⊢; omega
        cases d2 : decide (x ≤ 4095)
        · have HV := Shut.mk (chv_none HK.out (by rw [HAL.out]; unfold lenOk; rw [d1, d2]; rfl)).symm
          go_wp2_with (fail)
          go_ret2
          exact ⟨ret_tt HV.out.symm, HBx.out⟩
        have HV := Shut.mk (chv_one HK.out (by rw [HAL.out]; unfold lenOk; rw [d1, d2]; rfl)).symm
        go_wp2_with (fail)
        go_ret2
        exact ⟨ret_tt HV.out.symm, HBx.out⟩
      · have HA2 := Shut.mk (show ∀ j, 1 ≤ j → j ≤ q → fitsB r m (xs.take j) = true from fun j h1 h2 => by
          rcases (by have := HQ.out; omega : j ≤ k ∨ j = q) with h | h
          · exact HA.out j h1 h
          · rw [h]; exact hf)
        clear hf
        go_wp2_with (fail)
        go_roundw
        case rel => exact ⟨q, by have := HQ.out; omega, by go_num, HA2.out, HBe.out⟩
        case measure => have := HQ.out; simp [intOf]; omega
    · obtain rfl : k = n := by omega
      clear hlt hk
      have HK := Shut.mk (show manyB r m xs = k from many_one ⟨by rw [HR.out.len]; omega, HA.out, .inl HR.out.len.symm⟩)
      have HG' := Shut.mk (fun (w' : World) (hB : Below wr.heap.size wr w') => (hB.block _ (lt_blk HG.out)).trans HG.out)
      have HM' := Shut.mk (fun (w' : World) (hB : Below wr.heap.size wr w') => (hB.block _ (lt_blk HM.out)).trans HM.out)
      have e0 : decide ((k : Int) < (k : Int)) = false := by simp
      have e1 : decide (k < k) = false := by simp
      go_wp2_with (fail)
      refine wp_region_held_drew (S := fun w' => Below wr.heap.size wr w') (by kernel_rfl) (Below.refl _ _).drew (fun hHeld => ?_)
      generalize World.drew wr = w5 at *
      have HB5 := Lib.hid hHeld
      refine wpAnyH_take (i := 0) (v := ?_) rfl (by kernel_rfl) (by kernel_rfl) (by kernel_rfl) (fun _ _ _ h => h) (Or.inl ⟨by rfl, ?_⟩) (by assumption) ?_
      rotate_left
      · intro w hSw
        clear hSw
        go_simp
        try with_reducible rfl
      try simp only [Act.put, List.getElem_toArray, List.getElem_cons_zero, List.getElem_cons_succ, List.setIfInBounds_toArray, List.set_cons_zero, List.set_cons_succ]
      refine wpAnyH_take (i := 1) (v := ?_) rfl (by kernel_rfl) (by kernel_rfl) (by kernel_rfl) (fun _ _ _ h => h) (Or.inl ⟨by rfl, ?_⟩) (by assumption) ?_
      rotate_left
      · intro w hSw
        clear hSw
        go_simp
        try with_reducible rfl
      try simp only [Act.put, List.getElem_toArray, List.getElem_cons_zero, List.getElem_cons_succ, List.setIfInBounds_toArray, List.set_cons_zero, List.set_cons_succ]
      refine wpAnyH_take (i := 2) (v := ?_) rfl (by kernel_rfl) (by kernel_rfl) (by kernel_rfl) (fun _ _ _ h => h) (Or.inl ⟨by rfl, ?_⟩) (by assumption) ?_
      rotate_left
      · intro w hSw
        clear hSw
        go_simp
        try with_reducible rfl
      try simp only [Act.put, List.getElem_toArray, List.getElem_cons_zero, List.getElem_cons_succ, List.setIfInBounds_toArray, List.set_cons_zero, List.set_cons_succ]
      refine wpAnyH_take (i := 3) (v := ?_) rfl (by kernel_rfl) (by kernel_rfl) (by kernel_rfl) (fun _ _ _ h => h) (Or.inl ⟨by rfl, ?_⟩) (by assumption) ?_
      rotate_left
      · intro w hSw
        clear hSw
        go_simp
        try with_reducible rfl
      try simp only [Act.put, List.getElem_toArray, List.getElem_cons_zero, List.getElem_cons_succ, List.setIfInBounds_toArray, List.set_cons_zero, List.set_cons_succ]
      refine wpAnyH_take (i := 4) (v := ?_) rfl (by kernel_rfl) (by kernel_rfl) (by kernel_rfl) (fun _ _ _ h => h) (Or.inl ⟨by rfl, ?_⟩) (by assumption) ?_
      rotate_left
      · intro w hSw
        clear hSw
        go_simp
        try with_reducible rfl
      try simp only [Act.put, List.getElem_toArray, List.getElem_cons_zero, List.getElem_cons_succ, List.setIfInBounds_toArray, List.set_cons_zero, List.set_cons_succ]
      refine wpAnyH_take (i := 5) (v := undef) rfl (by kernel_rfl) (by kernel_rfl) (by kernel_rfl) (fun _ _ _ h => h) (Or.inr ⟨by rfl, rfl⟩) (by assumption) ?_
      try simp only [Act.put, List.getElem_toArray, List.getElem_cons_zero, List.getElem_cons_succ, List.setIfInBounds_toArray, List.set_cons_zero, List.set_cons_succ]
      refine wpAnyH_take (i := 6) (v := undef) rfl (by kernel_rfl) (by kernel_rfl) (by kernel_rfl) (fun _ _ _ h => h) (Or.inr ⟨by rfl, rfl⟩) (by assumption) ?_
      try simp only [Act.put, List.getElem_toArray, List.getElem_cons_zero, List.getElem_cons_succ, List.setIfInBounds_toArray, List.set_cons_zero, List.set_cons_succ]
      refine wpAnyH_take (i := 7) (v := undef) rfl (by kernel_rfl) (by kernel_rfl) (by kernel_rfl) (fun _ _ _ h => h) (Or.inr ⟨by rfl, rfl⟩) (by assumption) ?_
      try simp only [Act.put, List.getElem_toArray, List.getElem_cons_zero, List.getElem_cons_succ, List.setIfInBounds_toArray, List.set_cons_zero, List.set_cons_succ]
      refine wpAnyH_take (i := 8) (v := undef) rfl (by kernel_rfl) (by kernel_rfl) (by kernel_rfl) (fun _ _ _ h => h) (Or.inr ⟨by rfl, rfl⟩) (by assumption) ?_
      try simp only [Act.put, List.getElem_toArray, List.getElem_cons_zero, List.getElem_cons_succ, List.setIfInBounds_toArray, List.set_cons_zero, List.set_cons_succ]
      refine wpAnyH_take (i := 9) (v := undef) rfl (by kernel_rfl) (by kernel_rfl) (by kernel_rfl) (fun _ _ _ h => h) (Or.inr ⟨by rfl, rfl⟩) (by assumption) ?_
      try simp only [Act.put, List.getElem_toArray, List.getElem_cons_zero, List.getElem_cons_succ, List.setIfInBounds_toArray, List.set_cons_zero, List.set_cons_succ]
      refine wpAnyH_take (i := 10) (v := undef) rfl (by kernel_rfl) (by kernel_rfl) (by kernel_rfl) (fun _ _ _ h => h) (Or.inr ⟨by rfl, rfl⟩) (by assumption) ?_
      try simp only [Act.put, List.getElem_toArray, List.getElem_cons_zero, List.getElem_cons_succ, List.setIfInBounds_toArray, List.set_cons_zero, List.set_cons_succ]
      refine wpAnyH_take (i := 11) (v := undef) rfl (by kernel_rfl) (by kernel_rfl) (by kernel_rfl) (fun _ _ _ h => h) (Or.inr ⟨by rfl, rfl⟩) (by assumption) ?_
      try simp only [Act.put, List.getElem_toArray, List.getElem_cons_zero, List.getElem_cons_succ, List.setIfInBounds_toArray, List.set_cons_zero, List.set_cons_succ]
      refine wpAnyH_take (i := 12) (v := ?_) rfl (by kernel_rfl) (by kernel_rfl) (by kernel_rfl) (fun _ _ _ h => h) (Or.inl ⟨by rfl, ?_⟩) (by assumption) ?_
      rotate_left
      · intro w hSw
        clear hSw
        go_simp
        try with_reducible rfl
      try simp only [Act.put, List.getElem_toArray, List.getElem_cons_zero, List.getElem_cons_succ, List.setIfInBounds_toArray, List.set_cons_zero, List.set_cons_succ]
      refine wpAnyH_done (by kernel_rfl) ?_ _
      try simp only [Act.put, List.getElem_toArray, List.getElem_cons_zero, List.getElem_cons_succ, List.setIfInBounds_toArray, List.set_cons_zero, List.set_cons_succ]
      have HBw := Shut.mk (HB.out.trans (HB5.out.mono HB.out.size))
      have HGe := Shut.mk (HG'.out _ HB5.out)
      have HMe := Shut.mk (HM'.out _ HB5.out)
      clear e0 e1
      by_cases h0 : 0 < k
      · have e0 : decide ((0 : Int) < (k : Int)) = true := by simpa using h0
        have e1 : decide (0 < k) = true := by simpa using h0
        have HV := Shut.mk (chv_many HK.out h0).symm
        clear h0
        go_wp2_with (fail)
        go_ret2
        exact ⟨ret_tt HV.out.symm, HBw.out⟩
      have e0 : decide ((0 : Int) < (k : Int)) = false := by simp; omega
      have e1 : decide (0 < k) = false := by simp; omega
      have HK := Shut.mk (show manyB r m xs = 0 by rw [HK.out]; omega)
      have HV := Shut.mk (chv_none HK.out (alone_no1 (by rw [HR.out.len]; omega))).symm
      obtain rfl : k = 0 := by omega
      clear h0
      go_wp2_with (fail)
      go_ret2
      exact ⟨ret_tt HV.out.symm, HBw.out⟩
end Go.Proofs.YtlkoleannlpflaaDoor
