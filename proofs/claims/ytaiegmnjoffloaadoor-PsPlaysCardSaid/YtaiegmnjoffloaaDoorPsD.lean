/-
  CONTRACTS of package ps: Trigger, May, Sent, Del, Add, Clone.
-/
import Derived.Test.YtaiegmnjoffloaaDoorPsC
import Derived.Deep.CutRange
import Derived.BigQuiet
import Derived.StillTailTactics
import Derived.LoopTactic
namespace Go.Proofs.YtaiegmnjoffloaaDoor
open Go.ChangeShapes Go.WideShapes Go.ChangeAt Go.RowKit Go.Deep
set_option linter.unusedVariables false
set_option linter.unusedSimpArgs false

/-! ### Trigger -/
set_option maxRecDepth 100000 in
set_option maxHeartbeats 8000000 in
theorem trig_q {S : List Nat} (g : Nat) (y : Nat → Cst) (a c : Int) (w : World) (E : Nat → Addr) (hS : Sent w E S) (h103 : 103 ∈ S) (h107 : 107 ∈ S) (h110 : 110 ∈ S) (h : IsCs w g y) (hi : InvC y) :
    Calls Tryd.prog 19 #[.pointer (some ⟨g, 0, none⟩), .int .i64 a, .int .i64 c] w fun e w' => e = .returned (errV E (trigQ y a c).2) ∧ IsCs w' g (trigQ y a c).1 ∧ Only (· = g) w w' := by
  have HX := Shut.mk h
  have z107 : w.cell? ⟨2, 0, none⟩ = some (errP (E 107)) := hS.at_ 107 h107
  have HE107 := Shut.mk (errV_pos E (c := 107) (by decide))
  unfold trigQ
  cases ht : thC y a with
  | false =>
    have HT := Shut.mk (find_no g y a w h ht)
    rw [if_neg (by simp)]
    show Calls _ _ _ _ fun e w' => e = .returned (errV E 107) ∧ IsCs w' g y ∧ _
    rw [HE107.out]
    generalize E 107 = er at *
    clear h ht hS hi HE107
    go_enter Tryd.func19, Tryd.ntmps19
    go_wp2_with (fail)
    refine HT.out.mono ?_
    rintro e w' ⟨rfl, rfl⟩
    go_wp2_with (fail)
    go_ret
    exact ⟨rfl, HX.out, Only.refl _ _⟩
  | true =>
    rw [if_pos rfl]
    obtain ⟨k, rfl, k1, k2⟩ := aidP_nat (thC_aid ht)
    have HT := Shut.mk (find_yes g y k w h ht)
    have h0 := thC_st ht
    rw [Int.toNat_natCast] at h0 ⊢
    have HK := Shut.mk (show k < 17 by omega)
    have hk := HK.out
    have h4 := hi.st k
    have h5 := hi.most k
    have h6 := hi.left k
    obtain ⟨p, hp⟩ : ∃ p, p = y k := ⟨_, rfl⟩
    have HID := Shut.mk (show updF y k p = y by rw [hp]; exact updC_id y k)
    rw [← hp] at h0 h4 h5 h6 ⊢
    clear k1 k2 ht z107 HE107
    cases hc : acP c with
    | false =>
      have HC := Shut.mk (isac_any c w)
      rw [hc] at HC
      rw [if_neg (by simp)]
      have z : w.cell? ⟨0, 0, none⟩ = some (errP (E 103)) := hS.at_ 103 h103
      have HE := Shut.mk (errV_pos E (c := 103) (by decide))
      show Calls _ _ _ _ fun e w' => e = .returned (errV E 103) ∧ IsCs w' g y ∧ _
      rw [HE.out]
      generalize E 103 = er at *
      clear h h0 h4 h5 h6 hk hp hS hi hc
      go_enter Tryd.func19, Tryd.ntmps19
      go_wp2_with (fail)
      refine HT.out.mono ?_
      rintro e w' ⟨rfl, rfl⟩
      go_wp2_with (fail)
      refine HC.out.mono ?_
      rintro e w' ⟨rfl, rfl⟩
      go_wp2_with (fail)
      go_ret
      exact ⟨rfl, HX.out, Only.refl _ _⟩
    | true =>
      rw [if_pos rfl]
      obtain ⟨n, rfl, hn⟩ := acP_nat hc
      have HC := Shut.mk (isac_any (n : Int) w)
      rw [hc] at HC
      rw [Int.toNat_natCast]
      have cu := h.cu (k := k) hk hn
      rw [← hp] at cu
      have n1 : (0 : Int) ≤ (n : Int) := by omega
      have n2 : (n : Int) < 4 := by omega
      rcases four_st h0 h4 with hs | hs | hs | hs
      · have c0 : w.cell? ⟨g, k * 7, none⟩ = some (.int .i64 1) := h.cs hk (hp ▸ hs)
        have e : trigS p n = (p, 110) := by unfold trigS; rw [if_neg (by omega)]
        rw [e]
        have z : w.cell? ⟨3, 0, none⟩ = some (errP (E 110)) := hS.at_ 110 h110
        have HE := Shut.mk (errV_pos E (c := 110) (by decide))
        show Calls _ _ _ _ fun e w' => e = .returned (errV E 110) ∧ IsCs w' g (updF y k p) ∧ _
        rw [HE.out]
        generalize E 110 = er at *
        clear h h0 h4 h5 h6 hk hs e hp hS hi hn hc cu
        go_enter Tryd.func19, Tryd.ntmps19
        go_wp2_with (fail)
        refine HT.out.mono ?_
        rintro e w' ⟨rfl, rfl⟩
        go_wp2_with (fail)
        refine HC.out.mono ?_
        rintro e w' ⟨rfl, rfl⟩
        go_wp2_with (fail)
        go_ret
        exact ⟨rfl, by rw [HID.out]; exact HX.out, Only.refl _ _⟩
      · have c0 : w.cell? ⟨g, k * 7, none⟩ = some (.int .i64 2) := h.cs hk (hp ▸ hs)
        cases hu : p.u n with
        | false =>
          have e : trigS p n = (p, 110) := by unfold trigS; rw [if_neg (by rw [hu]; simp)]
          rw [e]
          rw [hu] at cu
          have z : w.cell? ⟨3, 0, none⟩ = some (errP (E 110)) := hS.at_ 110 h110
          have HE := Shut.mk (errV_pos E (c := 110) (by decide))
          show Calls _ _ _ _ fun e w' => e = .returned (errV E 110) ∧ IsCs w' g (updF y k p) ∧ _
          rw [HE.out]
          generalize E 110 = er at *
          clear h h0 h4 h5 h6 hk hs e hp hS hi hn hc hu
          go_enter Tryd.func19, Tryd.ntmps19
          go_wp2_with (fail)
          refine HT.out.mono ?_
          rintro e w' ⟨rfl, rfl⟩
          go_wp2_with (fail)
          refine HC.out.mono ?_
          rintro e w' ⟨rfl, rfl⟩
          go_wp2_with (fail)
          go_ret
          exact ⟨rfl, by rw [HID.out]; exact HX.out, Only.refl _ _⟩
        | true =>
          have e : trigS p n = ({ p with st := 4, left := p.most }, 0) := by unfold trigS; rw [if_pos ⟨hs, hu⟩]
          rw [e]
          rw [hu] at cu
          have c5 : w.cell? ⟨g, k * 7 + 5, none⟩ = some (.int .i64 (p.most : Nat)) := by rw [hp]; exact h.c hk (j := 5) rfl
          have HS1 := Shut.mk (show cstC { p with st := 4 } = (cstC (y k)).set 0 (.int .i64 4) by rw [← hp]; rfl)
          have HS2 := Shut.mk (show cstC { p with st := 4, left := p.most } = (cstC (updF y k { p with st := 4 } k)).set 6 (.int .i64 (p.most : Nat)) by rw [updF_same]; rfl)
          show Calls _ _ _ _ fun e w' => e = .returned .nilIface ∧ IsCs w' g (updF y k { p with st := 4, left := p.most }) ∧ _
          clear h h0 h4 h5 h6 hk hs e hp hS hi hn hc hu
          go_enter Tryd.func19, Tryd.ntmps19
          go_wp2_with (fail)
          refine HT.out.mono ?_
          rintro e w' ⟨rfl, rfl⟩
          go_wp2_with (fail)
          refine HC.out.mono ?_
          rintro e w' ⟨rfl, rfl⟩
          go_wp2_with (first
            | (refine wpList_store_into rfl 25 (.tmp 43) (.const (.int .i64 4)) rfl g (k * 7) (.int .i64 4) rfl rfl rfl 31 (blkC y) (blkC (updF y k ({ p with st := 4 }))) HX.out sizeStt (cs_lt0 _ HK.out) (cs_set0 _ HK.out HS1.out) ?_
               have HA1 := Shut.mk (HX.out.put (updF y k ({ p with st := 4 })))
               have HO1 := Shut.mk (only_setRow w g (blkC (updF y k ({ p with st := 4 }))))
               generalize World.setRow w g (blkC (updF y k ({ p with st := 4 }))) = wn1 at *)
            | (refine wpList_store_into rfl 3 (.tmp 45) (.tmp 41) rfl g (k * 7 + 6) (.int .i64 (p.most : Nat)) rfl rfl rfl 31 (blkC (updF y k { p with st := 4 })) (blkC (updF (updF y k { p with st := 4 }) k ({ p with st := 4, left := p.most }))) HA1.out sizeIn (cs_lt _ HK.out (by decide)) (cs_set _ HK.out (by decide) HS2.out) ?_
               have HA2 := Shut.mk (HA1.out.put (updF (updF y k { p with st := 4 }) k ({ p with st := 4, left := p.most })))
               have HO2 := Shut.mk (only_setRow wn1 g (blkC (updF (updF y k { p with st := 4 }) k ({ p with st := 4, left := p.most }))))
               generalize World.setRow wn1 g (blkC (updF (updF y k { p with st := 4 }) k ({ p with st := 4, left := p.most }))) = wn2 at *))
          go_ret
          refine ⟨rfl, ?_, HO1.out.trans HO2.out fun _ _ e => e⟩
          have h := HA2.out
          rw [updC_two] at h
          exact h
      · have c0 : w.cell? ⟨g, k * 7, none⟩ = some (.int .i64 3) := h.cs hk (hp ▸ hs)
        have e : trigS p n = (p, 110) := by unfold trigS; rw [if_neg (by omega)]
        rw [e]
        have z : w.cell? ⟨3, 0, none⟩ = some (errP (E 110)) := hS.at_ 110 h110
        have HE := Shut.mk (errV_pos E (c := 110) (by decide))
        show Calls _ _ _ _ fun e w' => e = .returned (errV E 110) ∧ IsCs w' g (updF y k p) ∧ _
        rw [HE.out]
        generalize E 110 = er at *
        clear h h0 h4 h5 h6 hk hs e hp hS hi hn hc cu
        go_enter Tryd.func19, Tryd.ntmps19
        go_wp2_with (fail)
        refine HT.out.mono ?_
        rintro e w' ⟨rfl, rfl⟩
        go_wp2_with (fail)
        refine HC.out.mono ?_
        rintro e w' ⟨rfl, rfl⟩
        go_wp2_with (fail)
        go_ret
        exact ⟨rfl, by rw [HID.out]; exact HX.out, Only.refl _ _⟩
      · have c0 : w.cell? ⟨g, k * 7, none⟩ = some (.int .i64 4) := h.cs hk (hp ▸ hs)
        have e : trigS p n = (p, 110) := by unfold trigS; rw [if_neg (by omega)]
        rw [e]
        have z : w.cell? ⟨3, 0, none⟩ = some (errP (E 110)) := hS.at_ 110 h110
        have HE := Shut.mk (errV_pos E (c := 110) (by decide))
        show Calls _ _ _ _ fun e w' => e = .returned (errV E 110) ∧ IsCs w' g (updF y k p) ∧ _
        rw [HE.out]
        generalize E 110 = er at *
        clear h h0 h4 h5 h6 hk hs e hp hS hi hn hc cu
        go_enter Tryd.func19, Tryd.ntmps19
        go_wp2_with (fail)
        refine HT.out.mono ?_
        rintro e w' ⟨rfl, rfl⟩
        go_wp2_with (fail)
        refine HC.out.mono ?_
        rintro e w' ⟨rfl, rfl⟩
        go_wp2_with (fail)
        go_ret
        exact ⟨rfl, by rw [HID.out]; exact HX.out, Only.refl _ _⟩
/-! ### May, Sent -/
set_option maxRecDepth 100000 in
set_option maxHeartbeats 8000000 in
theorem may_q (g : Nat) (y : Nat → Cst) (a c : Int) (w : World) (h : IsCs w g y) (hi : InvC y) : Calls Tryd.prog 28 #[.pointer (some ⟨g, 0, none⟩), .int .i64 a, .int .i64 c] w fun e w' => e = .returned (.bool (mayQ y a c)) ∧ w = w' := by
  unfold mayQ
  cases ht : thC y a with
  | false =>
    have HT := Shut.mk (find_no g y a w h ht)
    clear h ht hi
    go_enter Tryd.func28, Tryd.ntmps28
    go_wp2_with (fail)
    refine HT.out.mono ?_
    rintro e w' ⟨rfl, rfl⟩
    go_wp2_with (fail)
    go_ret
    exact ⟨rfl, rfl⟩
  | true =>
    obtain ⟨k, rfl, k1, k2⟩ := aidP_nat (thC_aid ht)
    have HT := Shut.mk (find_yes g y k w h ht)
    have h0 := thC_st ht
    rw [Int.toNat_natCast] at h0 ⊢
    have HC := Shut.mk (isac_any c w)
    cases hc : acP c with
    | false =>
      rw [hc] at HC
      clear h ht hi h0 hc
      go_enter Tryd.func28, Tryd.ntmps28
      go_wp2_with (fail)
      refine HT.out.mono ?_
      rintro e w' ⟨rfl, rfl⟩
      go_wp2_with (fail)
      refine HC.out.mono ?_
      rintro e w' ⟨rfl, rfl⟩
      go_wp2_with (fail)
      go_ret
      exact ⟨rfl, rfl⟩
    | true =>
      rw [hc] at HC
      obtain ⟨n, rfl, hn⟩ := acP_nat hc
      rw [Int.toNat_natCast]
      have HM := Shut.mk (may_s g y k n w h (by omega) hn h0 (hi.st k))
      generalize mayS (y k) n = b at *
      clear h ht hi h0 hc
      go_enter Tryd.func28, Tryd.ntmps28
      go_wp2_with (fail)
      refine HT.out.mono ?_
      rintro e w' ⟨rfl, rfl⟩
      go_wp2_with (fail)
      refine HC.out.mono ?_
      rintro e w' ⟨rfl, rfl⟩
      go_wp2_with (fail)
      refine HM.out.mono ?_
      rintro e w' ⟨rfl, rfl⟩
      go_wp2_with (fail)
      go_ret
      exact ⟨rfl, rfl⟩
set_option maxRecDepth 100000 in
set_option maxHeartbeats 8000000 in
theorem sent_q {S : List Nat} (g : Nat) (y : Nat → Cst) (a c : Int) (more : Bool) (w : World) (E : Nat → Addr) (hS : Sent w E S) (h103 : 103 ∈ S) (h107 : 107 ∈ S) (h110 : 110 ∈ S) (h : IsCs w g y) (hi : InvC y) :
    Calls Tryd.prog 21 #[.pointer (some ⟨g, 0, none⟩), .int .i64 a, .int .i64 c, .bool more] w fun e w' => e = .returned (.tuple #[.bool (sentQ y a c more).2.1, errV E (sentQ y a c more).2.2]) ∧ IsCs w' g (sentQ y a c more).1 ∧ Only (· = g) w w' := by
  have HX := Shut.mk h
  unfold sentQ
  cases ht : thC y a with
  | false =>
    have HT := Shut.mk (find_no g y a w h ht)
    rw [if_neg (by simp)]
    have z : w.cell? ⟨2, 0, none⟩ = some (errP (E 107)) := hS.at_ 107 h107
    have HE := Shut.mk (errV_pos E (c := 107) (by decide))
    show Calls _ _ _ _ fun e w' => e = .returned (.tuple #[.bool false, errV E 107]) ∧ IsCs w' g y ∧ _
    rw [HE.out]
    generalize E 107 = er at *
    clear h ht hS hi HE
    go_enter Tryd.func21, Tryd.ntmps21
    go_wp2_with (fail)
    refine HT.out.mono ?_
    rintro e w' ⟨rfl, rfl⟩
    go_wp2_with (fail)
    go_quiet (fail)
    go_wp2_with (fail)
    go_ret2
    exact ⟨rfl, HX.out.below (below_drewN (Below.refl _ _) _), Only.of_quiet (below_drewN (Below.refl _ _) _)⟩
  | true =>
    rw [if_pos rfl]
    obtain ⟨k, rfl, k1, k2⟩ := aidP_nat (thC_aid ht)
    have HT := Shut.mk (find_yes g y k w h ht)
    have h0 := thC_st ht
    rw [Int.toNat_natCast] at h0 ⊢
    have HC := Shut.mk (isac_any c w)
    cases hc : acP c with
    | false =>
      rw [hc] at HC
      rw [if_neg (by simp)]
      have z : w.cell? ⟨0, 0, none⟩ = some (errP (E 103)) := hS.at_ 103 h103
      have HE := Shut.mk (errV_pos E (c := 103) (by decide))
      show Calls _ _ _ _ fun e w' => e = .returned (.tuple #[.bool false, errV E 103]) ∧ IsCs w' g y ∧ _
      rw [HE.out]
      generalize E 103 = er at *
      clear h ht hS hi HE h0 hc
      go_enter Tryd.func21, Tryd.ntmps21
      go_wp2_with (fail)
      refine HT.out.mono ?_
      rintro e w' ⟨rfl, rfl⟩
      go_wp2_with (fail)
      refine HC.out.mono ?_
      rintro e w' ⟨rfl, rfl⟩
      go_wp2_with (fail)
      go_quiet (fail)
      go_wp2_with (fail)
      go_ret2
      exact ⟨rfl, HX.out.below (below_drewN (Below.refl _ _) _), Only.of_quiet (below_drewN (Below.refl _ _) _)⟩
    | true =>
      rw [if_pos rfl]
      rw [hc] at HC
      obtain ⟨n, rfl, hn⟩ := acP_nat hc
      rw [Int.toNat_natCast]
      have HM := Shut.mk (may_s g y k n w h (by omega) hn h0 (hi.st k))
      cases hm : mayS (y k) n with
      | false =>
        rw [hm] at HM
        rw [if_neg (by simp)]
        have z : w.cell? ⟨3, 0, none⟩ = some (errP (E 110)) := hS.at_ 110 h110
        have HE := Shut.mk (errV_pos E (c := 110) (by decide))
        show Calls _ _ _ _ fun e w' => e = .returned (.tuple #[.bool false, errV E 110]) ∧ IsCs w' g y ∧ _
        rw [HE.out]
        generalize E 110 = er at *
        clear h ht hS hi HE h0 hc hm hn
        go_enter Tryd.func21, Tryd.ntmps21
        go_wp2_with (fail)
        refine HT.out.mono ?_
        rintro e w' ⟨rfl, rfl⟩
        go_wp2_with (fail)
        refine HC.out.mono ?_
        rintro e w' ⟨rfl, rfl⟩
        go_wp2_with (fail)
        refine HM.out.mono ?_
        rintro e w' ⟨rfl, rfl⟩
        go_wp2_with (fail)
        go_quiet (fail)
        go_wp2_with (fail)
        go_ret2
        exact ⟨rfl, HX.out.below (below_drewN (Below.refl _ _) _), Only.of_quiet (below_drewN (Below.refl _ _) _)⟩
      | true =>
        rw [hm] at HM
        rw [if_pos rfl]
        have HN := Shut.mk (sent_s g y k more w h (by omega) h0 (hi.st k) (hi.left k))
        show Calls _ _ _ _ fun e w' => e = .returned (.tuple #[.bool (sentS (y k) more).2, .nilIface]) ∧ _
        generalize (sentS (y k) more).2 = b at *
        generalize (sentS (y k) more).1 = y2 at *
        clear h ht hi h0 hc hm hn hS
        go_enter Tryd.func21, Tryd.ntmps21
        go_wp2_with (fail)
        refine HT.out.mono ?_
        rintro e w' ⟨rfl, rfl⟩
        go_wp2_with (fail)
        refine HC.out.mono ?_
        rintro e w' ⟨rfl, rfl⟩
        go_wp2_with (fail)
        refine HM.out.mono ?_
        rintro e w' ⟨rfl, rfl⟩
        go_wp2_with (fail)
        refine HN.out.mono ?_
        rintro e w' ⟨rfl, hy, hO⟩
        have HY := Shut.mk hy
        have HO := Shut.mk hO
        clear hy hO
        go_wp2_with (fail)
        go_ret2
        exact ⟨rfl, HY.out, HO.out⟩
/-! ### Del, Clone -/
set_option maxRecDepth 100000 in
set_option maxHeartbeats 8000000 in
theorem del_q (g : Nat) (y : Nat → Cst) (a : Int) (w : World) (h : IsCs w g y) :
    Calls Tryd.prog 13 #[.pointer (some ⟨g, 0, none⟩), .int .i64 a] w fun e w' => e = .returned (.tuple #[]) ∧ IsCs w' g (delQ y a) ∧ Only (· = g) w w' := by
  have HX := Shut.mk h
  unfold delQ
  cases ht : thC y a with
  | false =>
    have HT := Shut.mk (find_no g y a w h ht)
    rw [if_neg (by simp)]
    clear h ht
    go_enter Tryd.func13, Tryd.ntmps13
    go_wp2_with (fail)
    refine HT.out.mono ?_
    rintro e w' ⟨rfl, rfl⟩
    go_wp2_with (fail)
    refine bodyPost_end (results_none (fn := Tryd.f13) rfl _ _ _) rfl ?_
    exact ⟨rfl, HX.out, Only.refl _ _⟩
  | true =>
    rw [if_pos rfl]
    obtain ⟨k, rfl, k1, k2⟩ := aidP_nat (thC_aid ht)
    have HT := Shut.mk (find_yes g y k w h ht)
    rw [Int.toNat_natCast]
    obtain ⟨pre, post, hl, hb, hs⟩ := arr_part cstC_len y [] [] (show k < 17 by omega)
    have HPL := Shut.mk (show pre.length = k * 7 by simpa using hl)
    have HBB := Shut.mk (show w.heap[g]? = some (.cells (pre ++ cstC (y k) ++ post).toArray 31 (0, 0)) by rw [← hb]; exact h)
    have HA := Shut.mk (show IsCs (w.setRow g (pre ++ cstC cst0 ++ post).toArray) g (updF y k cst0) by rw [hs]; exact h.put _)
    have HO := Shut.mk (only_setRow w g (pre ++ cstC cst0 ++ post).toArray)
    clear h ht hl hb hs
    go_enter Tryd.func13, Tryd.ntmps13
    go_wp2_with (fail)
    refine HT.out.mono ?_
    rintro e w' ⟨rfl, rfl⟩
    go_wp2_with (first
      | (refine wpList_store_part rfl 28 (.tmp 12) (.tmp 11) rfl g (k * 7) (.agg (cstC cst0).toArray) rfl rfl 31 pre (cstC (y k)) (cstC cst0) post HBB.out HPL.out rfl rfl sizeSt (cstC_one _) ?_; generalize World.setRow w g _ = w8 at *))
    refine bodyPost_end (results_none (fn := Tryd.f13) rfl _ _ _) rfl ?_
    exact ⟨rfl, HA.out, HO.out⟩
theorem sizePw : (Tryd.prog.info? 31).map (·.size) = some 119 := by kernel_rfl
theorem blkC_size (y : Nat → Cst) : (blkC y).size = 119 := by unfold blkC; rw [List.size_toArray, List.nil_append, List.append_nil, arrF_len cstC_len]
theorem blkC_one (y : Nat → Cst) : (blkC y).all (·.oneCell') = true := by
  rw [Array.all_eq_true']
  intro v hv
  have hv : v ∈ [] ++ arrF cstC 17 y ++ [] := by simpa [blkC] using hv
  rw [List.nil_append, List.append_nil] at hv
  unfold arrF at hv
  obtain ⟨k, -, hk⟩ := List.mem_flatMap.1 hv
  exact cstC_one _ v hk
set_option maxRecDepth 100000 in
set_option maxHeartbeats 8000000 in
theorem clone_q (g : Nat) (y : Nat → Cst) (w : World) (h : IsCs w g y) :
    Calls Tryd.prog 8 #[.pointer (some ⟨g, 0, none⟩)] w fun e w' => e = .returned (.pointer (some ⟨w.heap.size, 0, none⟩)) ∧ IsCs w' w.heap.size y ∧ Below w.heap.size w w' := by
  obtain ⟨c, hc⟩ : ∃ c, c = blkC y := ⟨_, rfl⟩
  have HS := Shut.mk (show c.size = 119 by rw [hc]; exact blkC_size y)
  have H1 := Shut.mk (show c.all (·.oneCell') = true by rw [hc]; exact blkC_one y)
  have HG := Shut.mk (show w.heap[g]? = some (.cells c 31 (0, 0)) by rw [hc]; exact h)
  have HB := Shut.mk ((Below.refl w.heap.size w).alloc (Nat.le_refl _) (Obj.cells c 31 (0, 0)))
  have HN := Shut.mk (MapKept.heap_alloc w (Obj.cells c 31 (0, 0))).1
  have HZ := Shut.mk (MapKept.heap_alloc w (Obj.cells #[.int .i64 0, .bool false, .bool false, .bool false, .bool false, .int .i64 0, .int .i64 0, .int .i64 0, .bool false, .bool false, .bool false, .bool false, .int .i64 0, .int .i64 0, .int .i64 0, .bool false, .bool false, .bool false, .bool false, .int .i64 0, .int .i64 0, .int .i64 0, .bool false, .bool false, .bool false, .bool false, .int .i64 0, .int .i64 0, .int .i64 0, .bool false, .bool false, .bool false, .bool false, .int .i64 0, .int .i64 0, .int .i64 0, .bool false, .bool false, .bool false, .bool false, .int .i64 0, .int .i64 0, .int .i64 0, .bool false, .bool false, .bool false, .bool false, .int .i64 0, .int .i64 0, .int .i64 0, .bool false, .bool false, .bool false, .bool false, .int .i64 0, .int .i64 0, .int .i64 0, .bool false, .bool false, .bool false, .bool false, .int .i64 0, .int .i64 0, .int .i64 0, .bool false, .bool false, .bool false, .bool false, .int .i64 0, .int .i64 0, .int .i64 0, .bool false, .bool false, .bool false, .bool false, .int .i64 0, .int .i64 0, .int .i64 0, .bool false, .bool false, .bool false, .bool false, .int .i64 0, .int .i64 0, .int .i64 0, .bool false, .bool false, .bool false, .bool false, .int .i64 0, .int .i64 0, .int .i64 0, .bool false, .bool false, .bool false, .bool false, .int .i64 0, .int .i64 0, .int .i64 0, .bool false, .bool false, .bool false, .bool false, .int .i64 0, .int .i64 0, .int .i64 0, .bool false, .bool false, .bool false, .bool false, .int .i64 0, .int .i64 0, .int .i64 0, .bool false, .bool false, .bool false, .bool false, .int .i64 0, .int .i64 0] 31 (0, 0))).1
  have HC := Shut.mk hc
  clear h hc
  go_enter Tryd.func8, Tryd.ntmps8
  go_wp2_with (first
    | (refine wpList_load_row rfl 31 (.tmp 5) rfl g rfl 31 c (0, 0) _ HG.out Tryd.underlying31 rfl (by rw [HS.out]; exact sizePw) ?_)
    | (refine wpList_store_row rfl 31 (.tmp 3) (.tmp 6) rfl w.heap.size c rfl rfl 31 _ HZ.out (by rw [HS.out]; exact sizePw) (by rw [HS.out]; rfl) H1.out ?_; rw [World.setRow_alloc_new]))
  go_ret
  exact ⟨rfl, by unfold IsCs; rw [← HC.out]; exact HN.out, HB.out⟩
end Go.Proofs.YtaiegmnjoffloaaDoor
