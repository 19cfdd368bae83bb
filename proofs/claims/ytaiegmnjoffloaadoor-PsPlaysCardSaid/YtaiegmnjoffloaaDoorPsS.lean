/-
  CONTRACTS of the reference's Power: Add, Trigger of whatever arguments.
-/
import Derived.Test.YtaiegmnjoffloaaDoorPsR
import Derived.StillTailTactics
import Derived.LoopTactic
namespace Go.Proofs.YtaiegmnjoffloaaDoor
open Go.ChangeShapes Go.WideShapes Go.ChangeAt Go.RowKit Go.Deep
set_option linter.unusedVariables false
set_option linter.unusedSimpArgs false

theorem radd_t (g : Nat) (x : Nat → Nap) (a m : Int) (u : Nat → Bool) (w : World) (h : IsRp w g x) :
    Calls Tryd.prog 12 #[.pointer (some ⟨g, 0, none⟩), .int .i64 a, .agg #[.bool (u 0), .bool (u 1), .bool (u 2), .bool (u 3)], .int .i64 m] w fun e w' => e = .returned (.int .i64 ((addP x a u m).2 : Nat)) ∧ IsRp w' g (addP x a u m).1 ∧ Only (· = g) w w' := by
  unfold addP
  by_cases ha : aidP a = true
  · by_cases hm : mostP m = true
    · rw [if_pos ⟨ha, hm⟩]
      obtain ⟨k, rfl, k1, k2⟩ := aidP_nat ha
      obtain ⟨n, rfl, hn⟩ := mostP_nat hm
      rw [Int.toNat_natCast, Int.toNat_natCast]
      refine (radd_in g x k n u w h k1 k2 hn (x k).there rfl).mono ?_
      rintro e w' ⟨rfl, h1, h2⟩
      split
      · rename_i ht
        rw [if_pos ht] at h1
        exact ⟨rfl, h1, h2⟩
      · rename_i ht
        rw [if_neg ht] at h1
        exact ⟨rfl, h1, h2⟩
    · rw [if_neg (fun e => hm e.2)]
      by_cases h0 : m < 0
      · exact (radd_low g x a m u w ha h0).mono fun _ _ ⟨e, hb⟩ => ⟨e, h.below hb, Only.of_quiet hb⟩
      · have h8 : 8 < m := by unfold mostP at hm; simp only [Bool.and_eq_true, decide_eq_true_eq] at hm; omega
        exact (radd_high g x a m u w ha h0 h8).mono fun _ _ ⟨e, hb⟩ => ⟨e, h.below hb, Only.of_quiet hb⟩
  · rw [if_neg (fun e => ha e.1)]
    exact (radd_aid g x a m u w (by simpa using ha)).mono fun _ _ ⟨e, hb⟩ => ⟨e, h.below hb, Only.of_quiet hb⟩
/-! ### Trigger -/
set_option maxRecDepth 100000 in
set_option maxHeartbeats 8000000 in
theorem rtrig_in (g k c : Nat) (x : Nat → Nap) (p : Nap) (w : World) (h : IsRp w g x) (k1 : 1 ≤ k) (k2 : k ≤ 16) (hp : p = x k) (ht : thP x (k : Int) = true) (hc : c < 4) :
    Calls Tryd.prog 20 #[.pointer (some ⟨g, 0, none⟩), .int .i64 (k : Int), .int .i64 (c : Int)] w fun e w' => e = .returned (.int .i64 ((trigN p c).2 : Nat)) ∧ IsRp w' g (updF x k (trigN p c).1) ∧ Only (· = g) w w' := by
  have HT := Shut.mk (rthere_any g x (k : Int) w h)
  rw [ht] at HT
  have HC := Shut.mk (rcat_any (c : Int) w)
  rw [show acP (c : Int) = true by unfold acP; simp; omega] at HC
  have HX := Shut.mk h
  have HK := Shut.mk (show k < 17 by omega)
  have c1 := h.c (k := k) (by omega) (j := 1) rfl
  have c2 := h.c (k := k) (by omega) (j := 2) rfl
  have c3 := h.c (k := k) (by omega) (j := 3) rfl
  have c8 := h.c (k := k) (by omega) (j := 8) rfl
  have cu := h.cu (k := k) (by omega) hc
  have e1 : (0 : Int) ≤ (k : Int) := by omega
  have e2 : (k : Int) < 17 := by omega
  have e3 : (0 : Int) ≤ (c : Int) := by omega
  have e4 : (c : Int) < 4 := by omega
  have HID := Shut.mk (show updF x k p = x by rw [hp]; exact updF_id x k)
  rw [← hp] at c1 c2 c3 c8 cu
  clear h k1 k2 ht hc
  cases has : p.asleep with
  | false =>
    rw [has] at c1
    have e : trigN p c = (p, 110) := by unfold trigN; rw [if_pos (.inl has)]
    rw [e]
    clear e has hp
    go_enter Tryd.func20, Tryd.ntmps20
    go_wp2_with (fail)
    refine HT.out.mono ?_
    rintro e w' ⟨rfl, rfl⟩
    go_wp2_with (fail)
    refine HC.out.mono ?_
    rintro e w' ⟨rfl, rfl⟩
    go_wp2_with (fail)
    go_ret
    exact ⟨rfl, by rw [HID.out]; exact HX.out, Only.refl _ _⟩
  | true =>
    rw [has] at c1
    cases hak : p.asked with
    | true =>
      rw [hak] at c2
      have e : trigN p c = (p, 110) := by unfold trigN; rw [if_pos (.inr (.inl hak))]
      rw [e]
      clear e has hp hak
      go_enter Tryd.func20, Tryd.ntmps20
      go_wp2_with (fail)
      refine HT.out.mono ?_
      rintro e w' ⟨rfl, rfl⟩
      go_wp2_with (fail)
      refine HC.out.mono ?_
      rintro e w' ⟨rfl, rfl⟩
      go_wp2_with (fail)
      go_ret
      exact ⟨rfl, by rw [HID.out]; exact HX.out, Only.refl _ _⟩
    | false =>
      rw [hak] at c2
      cases hop : p.opn with
      | true =>
        rw [hop] at c3
        have e : trigN p c = (p, 110) := by unfold trigN; rw [if_pos (.inr (.inr (.inl hop)))]
        rw [e]
        clear e has hp hak hop
        go_enter Tryd.func20, Tryd.ntmps20
        go_wp2_with (fail)
        refine HT.out.mono ?_
        rintro e w' ⟨rfl, rfl⟩
        go_wp2_with (fail)
        refine HC.out.mono ?_
        rintro e w' ⟨rfl, rfl⟩
        go_wp2_with (fail)
        go_ret
        exact ⟨rfl, by rw [HID.out]; exact HX.out, Only.refl _ _⟩
      | false =>
        rw [hop] at c3
        cases huc : p.u c with
        | false =>
          rw [huc] at cu
          have e : trigN p c = (p, 110) := by unfold trigN; rw [if_pos (.inr (.inr (.inr huc)))]
          rw [e]
          clear e has hp hak hop huc
          go_enter Tryd.func20, Tryd.ntmps20
          go_wp2_with (fail)
          refine HT.out.mono ?_
          rintro e w' ⟨rfl, rfl⟩
          go_wp2_with (fail)
          refine HC.out.mono ?_
          rintro e w' ⟨rfl, rfl⟩
          go_wp2_with (fail)
          go_ret
          exact ⟨rfl, by rw [HID.out]; exact HX.out, Only.refl _ _⟩
        | true =>
          rw [huc] at cu
          have e : trigN p c = ({ p with opn := true, left := p.most }, 0) := by unfold trigN; rw [if_neg (by rw [has, hak, hop, huc]; simp)]
          rw [e]
          have HS1 := Shut.mk (show napC { p with opn := true } = (napC (x k)).set 3 (.bool true) by rw [← hp]; rfl)
          have HS2 := Shut.mk (show napC { p with opn := true, left := p.most } = (napC (updF x k { p with opn := true } k)).set 9 (.int .i64 (p.most : Nat)) by rw [updF_same]; rfl)
          clear e has hp hak hop huc
          go_enter Tryd.func20, Tryd.ntmps20
          go_wp2_with (fail)
          refine HT.out.mono ?_
          rintro e w' ⟨rfl, rfl⟩
          go_wp2_with (fail)
          refine HC.out.mono ?_
          rintro e w' ⟨rfl, rfl⟩
          go_wp2_with (first
            | (refine wpList_store_into rfl 4 (.tmp 57) (.const (.bool true)) rfl g (k * 10 + 3) (.bool true) rfl rfl rfl 37 (blkP x) (blkP (updF x k ({ p with opn := true }))) HX.out sizeBo (blk_lt _ HK.out (by decide)) (blk_set _ HK.out (by decide) HS1.out) ?_
               have HA1 := Shut.mk (HX.out.put (updF x k ({ p with opn := true })))
               have HO1 := Shut.mk (only_setRow w g (blkP (updF x k ({ p with opn := true }))))
               generalize World.setRow w g (blkP (updF x k ({ p with opn := true }))) = wn1 at *))
          have HM := Shut.mk fun (w' : World) (hb : Below wn1.heap.size wn1 w') => show w'.cell? ⟨g, k * 10 + 8, none⟩ = some (.int .i64 (p.most : Nat)) from (HA1.out.below hb).c HK.out (j := 8) (by rw [updF_same]; rfl)
          refine wp_region_D (fun w' => Below wn1.heap.size wn1 w') 13 (by kernel_rfl) (show Below wn1.heap.size wn1 (World.drew wn1) from (Below.refl _ _).drew) (fun hHeld hC => ?_)
          refine dP 0 hC hHeld ?_; clear hC; intro hC
          refine dP 1 hC hHeld ?_; clear hC; intro hC
          refine dP 2 hC hHeld ?_; clear hC; intro hC
          refine dP 3 hC hHeld ?_; clear hC; intro hC
          refine dP 4 hC hHeld ?_; clear hC; intro hC
          refine dP 5 hC hHeld ?_; clear hC; intro hC
          refine dP 6 hC hHeld ?_; clear hC; intro hC
          refine dP 7 hC hHeld ?_; clear hC; intro hC
          refine dT 8 hC hHeld (fun w hSw => HM.out _ hSw) ?_; clear hC; intro hC
          refine dP 9 hC hHeld ?_; clear hC; intro hC
          refine dP 10 hC hHeld ?_; clear hC; intro hC
          refine dP 11 hC hHeld ?_; clear hC; intro hC
          refine dP 12 hC hHeld ?_; clear hC; intro hC
          refine wpAnyD_one (i := 13) (by kernel_rfl) rfl hC (fun K hK => ?_)
          clear hC
          refine step_store_into rfl 3 (.tmp 70) (.tmp 66) rfl g (k * 10 + 9) (.int .i64 (p.most : Nat)) rfl rfl rfl 37 (blkP (updF x k { p with opn := true })) (blkP (updF (updF x k { p with opn := true }) k { p with opn := true, left := p.most })) (HA1.out.below hHeld) size1i (blk_lt _ HK.out (by decide)) (blk_set _ HK.out (by decide) HS2.out) ?_
          have HA2 := Shut.mk ((HA1.out.below hHeld).put (updF (updF x k { p with opn := true }) k { p with opn := true, left := p.most }))
          have HO2 := Shut.mk ((HO1.out.trans (Only.of_quiet (S := (· = g)) hHeld) fun _ _ e => e).trans (only_setRow _ g (blkP (updF (updF x k { p with opn := true }) k { p with opn := true, left := p.most }))) fun _ _ e => e)
          generalize hq : World.setRow (World.drew wn1) g _ = w8 at *
          clear hq
          refine hK.out _ _ (past (by kernel_rfl)) (fun hC => ?_)
          clear hK K
          try simp only [Act.put, List.getElem_toArray, List.getElem_cons_zero, List.getElem_cons_succ, List.setIfInBounds_toArray, List.set_cons_zero, List.set_cons_succ]
          refine wpAnyD_done (by kernel_rfl) ?_ _
          try simp only [Act.put, List.getElem_toArray, List.getElem_cons_zero, List.getElem_cons_succ, List.setIfInBounds_toArray, List.set_cons_zero, List.set_cons_succ]
          clear hC hHeld
          go_wp2_with (fail)
          go_ret
          have h := HA2.out
          rw [updF_two] at h
          exact ⟨rfl, h, HO2.out⟩
set_option maxRecDepth 100000 in
set_option maxHeartbeats 8000000 in
theorem rtrig_t (g : Nat) (x : Nat → Nap) (a c : Int) (w : World) (h : IsRp w g x) :
    Calls Tryd.prog 20 #[.pointer (some ⟨g, 0, none⟩), .int .i64 a, .int .i64 c] w fun e w' => e = .returned (.int .i64 ((trigP x a c).2 : Nat)) ∧ IsRp w' g (trigP x a c).1 ∧ Only (· = g) w w' := by
  unfold trigP
  have HX := Shut.mk h
  cases ht : thP x a with
  | false =>
    have HT := Shut.mk (rthere_any g x a w h)
    rw [ht] at HT
    rw [if_neg (by simp)]
    clear h ht
    go_enter Tryd.func20, Tryd.ntmps20
    go_wp2_with (fail)
    refine HT.out.mono ?_
    rintro e w' ⟨rfl, rfl⟩
    go_wp2_with (fail)
    go_ret
    exact ⟨rfl, HX.out, Only.refl _ _⟩
  | true =>
    rw [if_pos rfl]
    cases hc : acP c with
    | false =>
      have HT := Shut.mk (rthere_any g x a w h)
      rw [ht] at HT
      have HC := Shut.mk (rcat_any c w)
      rw [hc] at HC
      rw [if_neg (by simp)]
      clear h ht hc
      go_enter Tryd.func20, Tryd.ntmps20
      go_wp2_with (fail)
      refine HT.out.mono ?_
      rintro e w' ⟨rfl, rfl⟩
      go_wp2_with (fail)
      refine HC.out.mono ?_
      rintro e w' ⟨rfl, rfl⟩
      go_wp2_with (fail)
      go_ret
      exact ⟨rfl, HX.out, Only.refl _ _⟩
    | true =>
      rw [if_pos rfl]
      obtain ⟨k, rfl, k1, k2⟩ := aidP_nat (th_aid ht)
      obtain ⟨n, rfl, hn⟩ := acP_nat hc
      rw [Int.toNat_natCast, Int.toNat_natCast]
      exact rtrig_in g k n x (x k) w h k1 k2 rfl ht hn
end Go.Proofs.YtaiegmnjoffloaaDoor
