/-
  CONTRACTS of the reference's Power: Sent.
-/
import Derived.Test.YtaiegmnjoffloaaDoorPsU
import Derived.Deep.CutRange
import Derived.StillTailTactics
import Derived.LoopTactic
namespace Go.Proofs.YtaiegmnjoffloaaDoor
open Go.ChangeShapes Go.WideShapes Go.ChangeAt Go.RowKit Go.Deep
set_option linter.unusedVariables false
set_option linter.unusedSimpArgs false

theorem sizeIn2 : (Tryd.prog.info? 3).map (·.size) = some 1 := by kernel_rfl
set_option maxRecDepth 100000 in
set_option maxHeartbeats 8000000 in
theorem rsent_t (g : Nat) (x : Nat → Nap) (a c : Int) (more : Bool) (w : World) (h : IsRp w g x) (hi : InvP x) :
    Calls Tryd.prog 22 #[.pointer (some ⟨g, 0, none⟩), .int .i64 a, .int .i64 c, .bool more] w fun e w' => e = .returned (.tuple #[.bool (sentP x a c more).2.1, .int .i64 ((sentP x a c more).2.2 : Nat)]) ∧ IsRp w' g (sentP x a c more).1 ∧ Only (· = g) w w' := by
  have HX := Shut.mk h
  have HT := Shut.mk (rthere_any g x a w h)
  have HC := Shut.mk (rcat_any c w)
  have HM := Shut.mk (rmay_t g x a c w h)
  unfold sentP
  cases ht : thP x a with
  | false =>
    rw [ht] at HT
    rw [if_neg (by simp)]
    clear h ht hi HC HM
    go_enter Tryd.func22, Tryd.ntmps22
    go_wp2_with (fail)
    refine HT.out.mono ?_
    rintro e w' ⟨rfl, rfl⟩
    go_wp2_with (fail)
    go_ret2
    exact ⟨rfl, HX.out, Only.refl _ _⟩
  | true =>
    rw [ht] at HT
    rw [if_pos rfl]
    cases hc : acP c with
    | false =>
      rw [hc] at HC
      rw [if_neg (by simp)]
      clear h ht hi hc HM
      go_enter Tryd.func22, Tryd.ntmps22
      go_wp2_with (fail)
      refine HT.out.mono ?_
      rintro e w' ⟨rfl, rfl⟩
      go_wp2_with (fail)
      refine HC.out.mono ?_
      rintro e w' ⟨rfl, rfl⟩
      go_wp2_with (fail)
      go_ret2
      exact ⟨rfl, HX.out, Only.refl _ _⟩
    | true =>
      rw [hc] at HC
      rw [if_pos rfl]
      obtain ⟨k, rfl, k1, k2⟩ := aidP_nat (th_aid ht)
      obtain ⟨n, rfl, hn⟩ := acP_nat hc
      rw [show mayP x (k : Int) (n : Int) = mayN (x k) n by unfold mayP; rw [ht, hc]; rfl] at HM
      have hth := th_there ht
      rw [Int.toNat_natCast] at hth ⊢
      rw [Int.toNat_natCast]
      have HK := Shut.mk (show k < 17 by omega)
      have e1 : (0 : Int) ≤ (k : Int) := by omega
      have e2 : (k : Int) < 17 := by omega
      have hinv := hi.one k
      have hmo := hi.most k
      obtain ⟨p, hp⟩ : ∃ p, p = x k := ⟨_, rfl⟩
      have HP := Shut.mk hp
      have HID := Shut.mk (show updF x k p = x by rw [hp]; exact updF_id x k)
      rw [← hp] at HM hth hinv hmo ⊢
      clear k1 k2 hn
      cases hm : mayN p n with
      | false =>
        rw [hm] at HM
        rw [if_neg (by simp)]
        clear h hi ht hc hm hp hth hinv hmo
        go_enter Tryd.func22, Tryd.ntmps22
        go_wp2_with (fail)
        refine HT.out.mono ?_
        rintro e w' ⟨rfl, rfl⟩
        go_wp2_with (fail)
        refine HC.out.mono ?_
        rintro e w' ⟨rfl, rfl⟩
        go_wp2_with (fail)
        refine (HM.out).mono ?_
        rintro e w1 ⟨rfl, hb⟩
        have HB := Shut.mk hb
        clear hb
        go_wp2_with (fail)
        go_ret2
        exact ⟨rfl, HX.out.below HB.out, Only.of_quiet HB.out⟩
      | true =>
        rw [hm] at HM
        rw [if_pos rfl]
        cases has : p.asleep with
        | false =>
          have has := Shut.mk has
          have e : sentN p more = (p, false) := by unfold sentN; rw [if_pos has.out]
          rw [e]
          show Calls _ _ _ _ fun e w' => e = .returned (.tuple #[.bool false, .int .i64 ((0 : Nat) : Int)]) ∧ IsRp w' g (updF x k p) ∧ _
          clear h hi ht hc hm hp hth hinv hmo e
          go_enter Tryd.func22, Tryd.ntmps22
          go_wp2_with (fail)
          refine HT.out.mono ?_
          rintro e w' ⟨rfl, rfl⟩
          go_wp2_with (fail)
          refine HC.out.mono ?_
          rintro e w' ⟨rfl, rfl⟩
          go_wp2_with (fail)
          refine (HM.out).mono ?_
          rintro e w1 ⟨rfl, hb⟩
          have HX1 := Shut.mk (HX.out.below hb)
          have HOB := Shut.mk (Only.of_quiet (S := (· = g)) hb)
          clear hb
          have c1 := HX1.out.c (k := k) HK.out (j := 1) rfl
          have c2 := HX1.out.c (k := k) HK.out (j := 2) rfl
          have c3 := HX1.out.c (k := k) HK.out (j := 3) rfl
          have c8 := HX1.out.c (k := k) HK.out (j := 8) rfl
          have c9 := HX1.out.c (k := k) HK.out (j := 9) rfl
          rw [← HP.out] at c1 c2 c3 c8 c9
          rw [has.out] at c1
          go_wp2_with (fail)
          go_ret2
          exact ⟨rfl, by rw [HID.out]; exact HX1.out, HOB.out⟩
        | true =>
          have has := Shut.mk has
          cases hask : p.asked with
          | true =>
            have hask := Shut.mk hask
            have e : sentN p more = ({ p with asked := false }, false) := by unfold sentN; rw [if_neg (by rw [has.out]; simp), if_pos hask.out]
            rw [e]
            have HS := Shut.mk (show napC { p with asked := false } = (napC (x k)).set 2 (.bool false) by rw [← hp]; rfl)
            show Calls _ _ _ _ fun e w' => e = .returned (.tuple #[.bool false, .int .i64 ((0 : Nat) : Int)]) ∧ IsRp w' g (updF x k { p with asked := false }) ∧ _
            clear h hi ht hc hm hp hth hinv hmo e
            go_enter Tryd.func22, Tryd.ntmps22
            go_wp2_with (fail)
            refine HT.out.mono ?_
            rintro e w' ⟨rfl, rfl⟩
            go_wp2_with (fail)
            refine HC.out.mono ?_
            rintro e w' ⟨rfl, rfl⟩
            go_wp2_with (fail)
            refine (HM.out).mono ?_
            rintro e w1 ⟨rfl, hb⟩
            have HX1 := Shut.mk (HX.out.below hb)
            have HOB := Shut.mk (Only.of_quiet (S := (· = g)) hb)
            clear hb
            have c1 := HX1.out.c (k := k) HK.out (j := 1) rfl
            have c2 := HX1.out.c (k := k) HK.out (j := 2) rfl
            have c3 := HX1.out.c (k := k) HK.out (j := 3) rfl
            have c8 := HX1.out.c (k := k) HK.out (j := 8) rfl
            have c9 := HX1.out.c (k := k) HK.out (j := 9) rfl
            rw [← HP.out] at c1 c2 c3 c8 c9
            rw [has.out] at c1
            rw [hask.out] at c2
            go_wp2_with (first
              | (refine wpList_store_into rfl 4 (.tmp 40) (.const (.bool false)) rfl g (k * 10 + 2) (.bool false) rfl rfl rfl 37 (blkP x) (blkP (updF x k ({ p with asked := false }))) HX1.out sizeBo (blk_lt _ HK.out (by decide)) (blk_set _ HK.out (by decide) HS.out) ?_
                 have HA1 := Shut.mk (HX1.out.put (updF x k ({ p with asked := false })))
                 have HO1 := Shut.mk (only_setRow w1 g (blkP (updF x k ({ p with asked := false }))))
                 generalize World.setRow w1 g (blkP (updF x k ({ p with asked := false }))) = wn1 at *))
            go_ret2
            exact ⟨rfl, HA1.out, HOB.out.trans HO1.out fun _ _ e => e⟩
          | false =>
            have hask := Shut.mk hask
            have hop : p.opn = true := by
              unfold mayN at hm
              rw [hth, has.out, hask.out] at hm
              simp at hm
              exact hm.1
            by_cases hm0 : p.most = 0
            · have hm0 := Shut.mk hm0
              clear hop
              cases more with
              | false =>
                have e : sentN p false = ({ p with opn := false }, true) := by unfold sentN lastN; rw [if_neg (by rw [has.out]; simp), if_neg (by rw [hask.out]; simp)]; simp [hm0.out]
                rw [e]
                have HS := Shut.mk (show napC { p with opn := false } = (napC (x k)).set 3 (.bool false) by rw [← hp]; rfl)
                show Calls _ _ _ _ fun e w' => e = .returned (.tuple #[.bool true, .int .i64 ((0 : Nat) : Int)]) ∧ IsRp w' g (updF x k { p with opn := false }) ∧ _
                clear h hi ht hc hm hp hth hinv hmo e
                go_enter Tryd.func22, Tryd.ntmps22
                go_wp2_with (fail)
                refine HT.out.mono ?_
                rintro e w' ⟨rfl, rfl⟩
                go_wp2_with (fail)
                refine HC.out.mono ?_
                rintro e w' ⟨rfl, rfl⟩
                go_wp2_with (fail)
                refine (HM.out).mono ?_
                rintro e w1 ⟨rfl, hb⟩
                have HX1 := Shut.mk (HX.out.below hb)
                have HOB := Shut.mk (Only.of_quiet (S := (· = g)) hb)
                clear hb
                have c1 := HX1.out.c (k := k) HK.out (j := 1) rfl
                have c2 := HX1.out.c (k := k) HK.out (j := 2) rfl
                have c3 := HX1.out.c (k := k) HK.out (j := 3) rfl
                have c8 := HX1.out.c (k := k) HK.out (j := 8) rfl
                have c9 := HX1.out.c (k := k) HK.out (j := 9) rfl
                rw [← HP.out] at c1 c2 c3 c8 c9
                rw [has.out] at c1
                rw [hask.out] at c2
                rw [hm0.out] at c8
                have c8 : w1.cell? ⟨g, k * 10 + 8, none⟩ = some (.int .i64 0) := c8
                go_wp2_with (first
                  | (refine wpList_store_into rfl 4 (.tmp 67) (.const (.bool false)) rfl g (k * 10 + 3) (.bool false) rfl rfl rfl 37 (blkP x) (blkP (updF x k ({ p with opn := false }))) HX1.out sizeBo (blk_lt _ HK.out (by decide)) (blk_set _ HK.out (by decide) HS.out) ?_
                     have HA1 := Shut.mk (HX1.out.put (updF x k ({ p with opn := false })))
                     have HO1 := Shut.mk (only_setRow w1 g (blkP (updF x k ({ p with opn := false }))))
                     generalize World.setRow w1 g (blkP (updF x k ({ p with opn := false }))) = wn1 at *))
                go_ret2
                exact ⟨rfl, HA1.out, HOB.out.trans HO1.out fun _ _ e => e⟩
              | true =>
                have e : sentN p true = (p, false) := by unfold sentN lastN; rw [if_neg (by rw [has.out]; simp), if_neg (by rw [hask.out]; simp)]; simp [hm0.out]; rw [← hm0.out]
                rw [e]
                show Calls _ _ _ _ fun e w' => e = .returned (.tuple #[.bool false, .int .i64 ((0 : Nat) : Int)]) ∧ IsRp w' g (updF x k p) ∧ _
                clear h hi ht hc hm hp hth hinv hmo e
                go_enter Tryd.func22, Tryd.ntmps22
                go_wp2_with (fail)
                refine HT.out.mono ?_
                rintro e w' ⟨rfl, rfl⟩
                go_wp2_with (fail)
                refine HC.out.mono ?_
                rintro e w' ⟨rfl, rfl⟩
                go_wp2_with (fail)
                refine (HM.out).mono ?_
                rintro e w1 ⟨rfl, hb⟩
                have HX1 := Shut.mk (HX.out.below hb)
                have HOB := Shut.mk (Only.of_quiet (S := (· = g)) hb)
                clear hb
                have c1 := HX1.out.c (k := k) HK.out (j := 1) rfl
                have c2 := HX1.out.c (k := k) HK.out (j := 2) rfl
                have c3 := HX1.out.c (k := k) HK.out (j := 3) rfl
                have c8 := HX1.out.c (k := k) HK.out (j := 8) rfl
                have c9 := HX1.out.c (k := k) HK.out (j := 9) rfl
                rw [← HP.out] at c1 c2 c3 c8 c9
                rw [has.out] at c1
                rw [hask.out] at c2
                rw [hm0.out] at c8
                have c8 : w1.cell? ⟨g, k * 10 + 8, none⟩ = some (.int .i64 0) := c8
                go_wp2_with (fail)
                go_ret2
                exact ⟨rfl, by rw [HID.out]; exact HX1.out, HOB.out⟩
            · obtain ⟨l, hl1⟩ : ∃ l, p.left = l + 1 := ⟨p.left - 1, by have := hinv.left hop (by omega); omega⟩
              have hm0 := Shut.mk (show 0 < p.most by omega)
              have HW := Shut.mk (show IntKind.i64.wrap (l : Int) = (l : Int) from IntWalk.i64_in _ ⟨by omega, by omega⟩)
              have hl1 := Shut.mk hl1
              clear hop
              by_cases hz : l = 0
              · have hlz := Shut.mk (show ((l : Int) == 0) = true by simp [hz])
                have hlz2 := Shut.mk (show decide ((l : Int) = 0) = true by simp [hz])
                have hlz3 := Shut.mk (show (l = 0) = True by simp [hz])
                have hlz4 := Shut.mk hz
                clear hz
                cases more with
                | false =>
                  have e : sentN p false = ({ p with left := l, opn := false }, true) := by unfold sentN lastN; rw [if_neg (by rw [has.out]; simp), if_neg (by rw [hask.out]; simp)]; simp [hm0.out, hl1.out]
                  rw [e]
                  have HS1 := Shut.mk (show napC { p with left := l } = (napC (x k)).set 9 (.int .i64 (l : Nat)) by rw [← hp]; rfl)
                  have HS2 := Shut.mk (show napC { p with left := l, opn := false } = (napC (updF x k { p with left := l } k)).set 3 (.bool false) by rw [updF_same]; rfl)
                  show Calls _ _ _ _ fun e w' => e = .returned (.tuple #[.bool true, .int .i64 ((0 : Nat) : Int)]) ∧ IsRp w' g (updF x k { p with left := l, opn := false }) ∧ _
                  clear h hi ht hc hm hp hth hinv hmo e
                  go_enter Tryd.func22, Tryd.ntmps22
                  go_wp2_with (fail)
                  refine HT.out.mono ?_
                  rintro e w' ⟨rfl, rfl⟩
                  go_wp2_with (fail)
                  refine HC.out.mono ?_
                  rintro e w' ⟨rfl, rfl⟩
                  go_wp2_with (fail)
                  refine (HM.out).mono ?_
                  rintro e w1 ⟨rfl, hb⟩
                  have HX1 := Shut.mk (HX.out.below hb)
                  have HOB := Shut.mk (Only.of_quiet (S := (· = g)) hb)
                  clear hb
                  have c1 := HX1.out.c (k := k) HK.out (j := 1) rfl
                  have c2 := HX1.out.c (k := k) HK.out (j := 2) rfl
                  have c3 := HX1.out.c (k := k) HK.out (j := 3) rfl
                  have c8 := HX1.out.c (k := k) HK.out (j := 8) rfl
                  have c9 := HX1.out.c (k := k) HK.out (j := 9) rfl
                  rw [← HP.out] at c1 c2 c3 c8 c9
                  rw [has.out] at c1
                  rw [hask.out] at c2
                  rw [hl1.out] at c9
                  have c9 : w1.cell? ⟨g, k * 10 + 9, none⟩ = some (.int .i64 ((l : Int) + 1)) := c9
                  have f1 : (0 : Int) < (p.most : Nat) := Int.ofNat_lt.2 hm0.out
                  have f3 : (l : Int) + 1 - 1 = (l : Int) := by omega
                  have f4 : IntKind.i64.wrap (l : Int) = (l : Int) := HW.out
                  have f5 := hlz.out
                  have f6 := hlz2.out
                  go_wp2_with (first
                    | (refine wpList_store_into rfl 3 (.tmp 55) (.tmp 53) rfl g (k * 10 + 9) (.int .i64 (l : Nat)) rfl rfl rfl 37 (blkP x) (blkP (updF x k ({ p with left := l }))) HX1.out sizeIn2 (blk_lt _ HK.out (by decide)) (blk_set _ HK.out (by decide) HS1.out) ?_
                       have HA1 := Shut.mk (HX1.out.put (updF x k ({ p with left := l })))
                       have HO1 := Shut.mk (only_setRow w1 g (blkP (updF x k ({ p with left := l }))))
                       generalize World.setRow w1 g (blkP (updF x k ({ p with left := l }))) = wn1 at *
                       have c9n := HA1.out.c (k := k) HK.out (j := 9) (v := .int .i64 (l : Nat)) (by rw [updF_same]; rfl))
                    | (refine wpList_store_into rfl 4 (.tmp 67) (.const (.bool false)) rfl g (k * 10 + 3) (.bool false) rfl rfl rfl 37 (blkP (updF x k { p with left := l })) (blkP (updF (updF x k { p with left := l }) k ({ p with left := l, opn := false }))) HA1.out sizeBo (blk_lt _ HK.out (by decide)) (blk_set _ HK.out (by decide) HS2.out) ?_
                       have HA2 := Shut.mk (HA1.out.put (updF (updF x k { p with left := l }) k ({ p with left := l, opn := false })))
                       have HO2 := Shut.mk (only_setRow wn1 g (blkP (updF (updF x k { p with left := l }) k ({ p with left := l, opn := false }))))
                       generalize World.setRow wn1 g (blkP (updF (updF x k { p with left := l }) k ({ p with left := l, opn := false }))) = wn2 at *))
                  go_ret2
                  refine ⟨rfl, ?_, (HOB.out.trans HO1.out fun _ _ e => e).trans HO2.out fun _ _ e => e⟩
                  have h := HA2.out
                  rw [updF_two] at h
                  exact h
                | true =>
                  have e : sentN p true = ({ p with left := l, opn := false }, true) := by unfold sentN lastN; rw [if_neg (by rw [has.out]; simp), if_neg (by rw [hask.out]; simp)]; simp [hm0.out, hl1.out, hlz3.out]; exact hlz4.out.symm
                  rw [e]
                  have HS1 := Shut.mk (show napC { p with left := l } = (napC (x k)).set 9 (.int .i64 (l : Nat)) by rw [← hp]; rfl)
                  have HS2 := Shut.mk (show napC { p with left := l, opn := false } = (napC (updF x k { p with left := l } k)).set 3 (.bool false) by rw [updF_same]; rfl)
                  show Calls _ _ _ _ fun e w' => e = .returned (.tuple #[.bool true, .int .i64 ((0 : Nat) : Int)]) ∧ IsRp w' g (updF x k { p with left := l, opn := false }) ∧ _
                  clear h hi ht hc hm hp hth hinv hmo e
                  go_enter Tryd.func22, Tryd.ntmps22
                  go_wp2_with (fail)
                  refine HT.out.mono ?_
                  rintro e w' ⟨rfl, rfl⟩
                  go_wp2_with (fail)
                  refine HC.out.mono ?_
                  rintro e w' ⟨rfl, rfl⟩
                  go_wp2_with (fail)
                  refine (HM.out).mono ?_
                  rintro e w1 ⟨rfl, hb⟩
                  have HX1 := Shut.mk (HX.out.below hb)
                  have HOB := Shut.mk (Only.of_quiet (S := (· = g)) hb)
                  clear hb
                  have c1 := HX1.out.c (k := k) HK.out (j := 1) rfl
                  have c2 := HX1.out.c (k := k) HK.out (j := 2) rfl
                  have c3 := HX1.out.c (k := k) HK.out (j := 3) rfl
                  have c8 := HX1.out.c (k := k) HK.out (j := 8) rfl
                  have c9 := HX1.out.c (k := k) HK.out (j := 9) rfl
                  rw [← HP.out] at c1 c2 c3 c8 c9
                  rw [has.out] at c1
                  rw [hask.out] at c2
                  rw [hl1.out] at c9
                  have c9 : w1.cell? ⟨g, k * 10 + 9, none⟩ = some (.int .i64 ((l : Int) + 1)) := c9
                  have f1 : (0 : Int) < (p.most : Nat) := Int.ofNat_lt.2 hm0.out
                  have f3 : (l : Int) + 1 - 1 = (l : Int) := by omega
                  have f4 : IntKind.i64.wrap (l : Int) = (l : Int) := HW.out
                  have f5 := hlz.out
                  have f6 := hlz2.out
                  go_wp2_with (first
                    | (refine wpList_store_into rfl 3 (.tmp 55) (.tmp 53) rfl g (k * 10 + 9) (.int .i64 (l : Nat)) rfl rfl rfl 37 (blkP x) (blkP (updF x k ({ p with left := l }))) HX1.out sizeIn2 (blk_lt _ HK.out (by decide)) (blk_set _ HK.out (by decide) HS1.out) ?_
                       have HA1 := Shut.mk (HX1.out.put (updF x k ({ p with left := l })))
                       have HO1 := Shut.mk (only_setRow w1 g (blkP (updF x k ({ p with left := l }))))
                       generalize World.setRow w1 g (blkP (updF x k ({ p with left := l }))) = wn1 at *
                       have c9n := HA1.out.c (k := k) HK.out (j := 9) (v := .int .i64 (l : Nat)) (by rw [updF_same]; rfl))
                    | (refine wpList_store_into rfl 4 (.tmp 67) (.const (.bool false)) rfl g (k * 10 + 3) (.bool false) rfl rfl rfl 37 (blkP (updF x k { p with left := l })) (blkP (updF (updF x k { p with left := l }) k ({ p with left := l, opn := false }))) HA1.out sizeBo (blk_lt _ HK.out (by decide)) (blk_set _ HK.out (by decide) HS2.out) ?_
                       have HA2 := Shut.mk (HA1.out.put (updF (updF x k { p with left := l }) k ({ p with left := l, opn := false })))
                       have HO2 := Shut.mk (only_setRow wn1 g (blkP (updF (updF x k { p with left := l }) k ({ p with left := l, opn := false }))))
                       generalize World.setRow wn1 g (blkP (updF (updF x k { p with left := l }) k ({ p with left := l, opn := false }))) = wn2 at *))
                  go_ret2
                  refine ⟨rfl, ?_, (HOB.out.trans HO1.out fun _ _ e => e).trans HO2.out fun _ _ e => e⟩
                  have h := HA2.out
                  rw [updF_two] at h
                  exact h
              · have hlz := Shut.mk (show ((l : Int) == 0) = false by simp [hz])
                have hlz2 := Shut.mk (show decide ((l : Int) = 0) = false by simp [hz])
                have hlz3 := Shut.mk (show (l = 0) = False by simp [hz])
                clear hz
                cases more with
                | false =>
                  have e : sentN p false = ({ p with left := l, opn := false }, true) := by unfold sentN lastN; rw [if_neg (by rw [has.out]; simp), if_neg (by rw [hask.out]; simp)]; simp [hm0.out, hl1.out]
                  rw [e]
                  have HS1 := Shut.mk (show napC { p with left := l } = (napC (x k)).set 9 (.int .i64 (l : Nat)) by rw [← hp]; rfl)
                  have HS2 := Shut.mk (show napC { p with left := l, opn := false } = (napC (updF x k { p with left := l } k)).set 3 (.bool false) by rw [updF_same]; rfl)
                  show Calls _ _ _ _ fun e w' => e = .returned (.tuple #[.bool true, .int .i64 ((0 : Nat) : Int)]) ∧ IsRp w' g (updF x k { p with left := l, opn := false }) ∧ _
                  clear h hi ht hc hm hp hth hinv hmo e
                  go_enter Tryd.func22, Tryd.ntmps22
                  go_wp2_with (fail)
                  refine HT.out.mono ?_
                  rintro e w' ⟨rfl, rfl⟩
                  go_wp2_with (fail)
                  refine HC.out.mono ?_
                  rintro e w' ⟨rfl, rfl⟩
                  go_wp2_with (fail)
                  refine (HM.out).mono ?_
                  rintro e w1 ⟨rfl, hb⟩
                  have HX1 := Shut.mk (HX.out.below hb)
                  have HOB := Shut.mk (Only.of_quiet (S := (· = g)) hb)
                  clear hb
                  have c1 := HX1.out.c (k := k) HK.out (j := 1) rfl
                  have c2 := HX1.out.c (k := k) HK.out (j := 2) rfl
                  have c3 := HX1.out.c (k := k) HK.out (j := 3) rfl
                  have c8 := HX1.out.c (k := k) HK.out (j := 8) rfl
                  have c9 := HX1.out.c (k := k) HK.out (j := 9) rfl
                  rw [← HP.out] at c1 c2 c3 c8 c9
                  rw [has.out] at c1
                  rw [hask.out] at c2
                  rw [hl1.out] at c9
                  have c9 : w1.cell? ⟨g, k * 10 + 9, none⟩ = some (.int .i64 ((l : Int) + 1)) := c9
                  have f1 : (0 : Int) < (p.most : Nat) := Int.ofNat_lt.2 hm0.out
                  have f3 : (l : Int) + 1 - 1 = (l : Int) := by omega
                  have f4 : IntKind.i64.wrap (l : Int) = (l : Int) := HW.out
                  have f5 := hlz.out
                  have f6 := hlz2.out
                  go_wp2_with (first
                    | (refine wpList_store_into rfl 3 (.tmp 55) (.tmp 53) rfl g (k * 10 + 9) (.int .i64 (l : Nat)) rfl rfl rfl 37 (blkP x) (blkP (updF x k ({ p with left := l }))) HX1.out sizeIn2 (blk_lt _ HK.out (by decide)) (blk_set _ HK.out (by decide) HS1.out) ?_
                       have HA1 := Shut.mk (HX1.out.put (updF x k ({ p with left := l })))
                       have HO1 := Shut.mk (only_setRow w1 g (blkP (updF x k ({ p with left := l }))))
                       generalize World.setRow w1 g (blkP (updF x k ({ p with left := l }))) = wn1 at *
                       have c9n := HA1.out.c (k := k) HK.out (j := 9) (v := .int .i64 (l : Nat)) (by rw [updF_same]; rfl))
                    | (refine wpList_store_into rfl 4 (.tmp 67) (.const (.bool false)) rfl g (k * 10 + 3) (.bool false) rfl rfl rfl 37 (blkP (updF x k { p with left := l })) (blkP (updF (updF x k { p with left := l }) k ({ p with left := l, opn := false }))) HA1.out sizeBo (blk_lt _ HK.out (by decide)) (blk_set _ HK.out (by decide) HS2.out) ?_
                       have HA2 := Shut.mk (HA1.out.put (updF (updF x k { p with left := l }) k ({ p with left := l, opn := false })))
                       have HO2 := Shut.mk (only_setRow wn1 g (blkP (updF (updF x k { p with left := l }) k ({ p with left := l, opn := false }))))
                       generalize World.setRow wn1 g (blkP (updF (updF x k { p with left := l }) k ({ p with left := l, opn := false }))) = wn2 at *))
                  go_ret2
                  refine ⟨rfl, ?_, (HOB.out.trans HO1.out fun _ _ e => e).trans HO2.out fun _ _ e => e⟩
                  have h := HA2.out
                  rw [updF_two] at h
                  exact h
                | true =>
                  have e : sentN p true = ({ p with left := l }, false) := by unfold sentN lastN; rw [if_neg (by rw [has.out]; simp), if_neg (by rw [hask.out]; simp)]; simp [hm0.out, hl1.out, hlz3.out]
                  rw [e]
                  have HS1 := Shut.mk (show napC { p with left := l } = (napC (x k)).set 9 (.int .i64 (l : Nat)) by rw [← hp]; rfl)
                  show Calls _ _ _ _ fun e w' => e = .returned (.tuple #[.bool false, .int .i64 ((0 : Nat) : Int)]) ∧ IsRp w' g (updF x k { p with left := l }) ∧ _
                  clear h hi ht hc hm hp hth hinv hmo e
                  go_enter Tryd.func22, Tryd.ntmps22
                  go_wp2_with (fail)
                  refine HT.out.mono ?_
                  rintro e w' ⟨rfl, rfl⟩
                  go_wp2_with (fail)
                  refine HC.out.mono ?_
                  rintro e w' ⟨rfl, rfl⟩
                  go_wp2_with (fail)
                  refine (HM.out).mono ?_
                  rintro e w1 ⟨rfl, hb⟩
                  have HX1 := Shut.mk (HX.out.below hb)
                  have HOB := Shut.mk (Only.of_quiet (S := (· = g)) hb)
                  clear hb
                  have c1 := HX1.out.c (k := k) HK.out (j := 1) rfl
                  have c2 := HX1.out.c (k := k) HK.out (j := 2) rfl
                  have c3 := HX1.out.c (k := k) HK.out (j := 3) rfl
                  have c8 := HX1.out.c (k := k) HK.out (j := 8) rfl
                  have c9 := HX1.out.c (k := k) HK.out (j := 9) rfl
                  rw [← HP.out] at c1 c2 c3 c8 c9
                  rw [has.out] at c1
                  rw [hask.out] at c2
                  rw [hl1.out] at c9
                  have c9 : w1.cell? ⟨g, k * 10 + 9, none⟩ = some (.int .i64 ((l : Int) + 1)) := c9
                  have f1 : (0 : Int) < (p.most : Nat) := Int.ofNat_lt.2 hm0.out
                  have f3 : (l : Int) + 1 - 1 = (l : Int) := by omega
                  have f4 : IntKind.i64.wrap (l : Int) = (l : Int) := HW.out
                  have f5 := hlz.out
                  have f6 := hlz2.out
                  go_wp2_with (first
                    | (refine wpList_store_into rfl 3 (.tmp 55) (.tmp 53) rfl g (k * 10 + 9) (.int .i64 (l : Nat)) rfl rfl rfl 37 (blkP x) (blkP (updF x k ({ p with left := l }))) HX1.out sizeIn2 (blk_lt _ HK.out (by decide)) (blk_set _ HK.out (by decide) HS1.out) ?_
                       have HA1 := Shut.mk (HX1.out.put (updF x k ({ p with left := l })))
                       have HO1 := Shut.mk (only_setRow w1 g (blkP (updF x k ({ p with left := l }))))
                       generalize World.setRow w1 g (blkP (updF x k ({ p with left := l }))) = wn1 at *
                       have c9n := HA1.out.c (k := k) HK.out (j := 9) (v := .int .i64 (l : Nat)) (by rw [updF_same]; rfl)))
                  go_ret2
                  exact ⟨rfl, HA1.out, HOB.out.trans HO1.out fun _ _ e => e⟩
end Go.Proofs.YtaiegmnjoffloaaDoor
