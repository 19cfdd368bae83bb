/-
  CONTRACTS of the reference's Power: May.
-/
import Derived.Test.YtaiegmnjoffloaaDoorPsS
import Derived.BigGuard
import Derived.Deep.CutRange
import Derived.StillTailTactics
import Derived.LoopTactic
namespace Go.Proofs.YtaiegmnjoffloaaDoor
open Go.ChangeShapes Go.WideShapes Go.ChangeAt Go.RowKit Go.Deep
set_option linter.unusedVariables false
set_option linter.unusedSimpArgs false

set_option maxRecDepth 100000 in
set_option maxHeartbeats 8000000 in
theorem rmay_in (g k c : Nat) (x : Nat → Nap) (th asl ask opn : Bool) (mo le : Nat) (u : Nat → Bool) (w : World) (h : IsRp w g x) (k1 : 1 ≤ k) (k2 : k ≤ 16) (hx : x k = ⟨th, asl, ask, opn, mo, le, u⟩) (ht : thP x (k : Int) = true) (hc : c < 4) :
    Calls Tryd.prog 29 #[.pointer (some ⟨g, 0, none⟩), .int .i64 (k : Int), .int .i64 (c : Int)] w fun e w' => e = .returned (.bool (!asl || ask || opn && u c)) ∧ Below w.heap.size w w' := by
  have HT := Shut.mk (rthere_any g x (k : Int) w h)
  rw [ht] at HT
  have HC := Shut.mk (rcat_any (c : Int) w)
  rw [show acP (c : Int) = true by unfold acP; simp; omega] at HC
  have HRG := Shut.mk (show w.rangeAt g (k * 10) [.bool th, .bool asl, .bool ask, .bool opn, .bool (u 0), .bool (u 1), .bool (u 2), .bool (u 3), .int .i64 (mo : Nat), .int .i64 (le : Nat)] from fun j v hv => h.c (by omega) (by rw [hx]; exact hv))
  obtain ⟨gn, hgn⟩ : ∃ y, y = w.heap.size := ⟨_, rfl⟩
  have HGN := Shut.mk hgn
  have HAd := Shut.mk ((Below.refl w.heap.size w).alloc (Nat.le_refl _) (Obj.cells #[.bool false, .bool false, .bool false, .bool false, .bool false, .bool false, .bool false, .bool false, .int .i64 0, .int .i64 0] 34 (0, 0)))
  have HXN := Shut.mk (show (w.alloc (Obj.cells #[.bool false, .bool false, .bool false, .bool false, .bool false, .bool false, .bool false, .bool false, .int .i64 0, .int .i64 0] 34 (0, 0))).heap[gn]? = some (Obj.cells #[.bool false, .bool false, .bool false, .bool false, .bool false, .bool false, .bool false, .bool false, .int .i64 0, .int .i64 0] 34 (0, 0)) by rw [hgn]; exact (MapKept.heap_alloc w (Obj.cells #[.bool false, .bool false, .bool false, .bool false, .bool false, .bool false, .bool false, .bool false, .int .i64 0, .int .i64 0] 34 (0, 0))).1)
  obtain ⟨w1, hw1⟩ : ∃ w4, w4 = (w.alloc (Obj.cells #[.bool false, .bool false, .bool false, .bool false, .bool false, .bool false, .bool false, .bool false, .int .i64 0, .int .i64 0] 34 (0, 0))).setRow gn #[.bool th, .bool asl, .bool ask, .bool opn, .bool (u 0), .bool (u 1), .bool (u 2), .bool (u 3), .int .i64 (mo : Nat), .int .i64 (le : Nat)] := ⟨_, rfl⟩
  have hdb : w1.heap[gn]? = some (Obj.cells #[.bool th, .bool asl, .bool ask, .bool opn, .bool (u 0), .bool (u 1), .bool (u 2), .bool (u 3), .int .i64 (mo : Nat), .int .i64 (le : Nat)] 34 (0, 0)) := by rw [hw1]; exact setRow_heap _ gn _ #[.bool th, .bool asl, .bool ask, .bool opn, .bool (u 0), .bool (u 1), .bool (u 2), .bool (u 3), .int .i64 (mo : Nat), .int .i64 (le : Nat)] _ (0, 0) HXN.out
  have HD := Shut.mk (show ∀ (j : Nat) v, [.bool th, .bool asl, .bool ask, .bool opn, .bool (u 0), .bool (u 1), .bool (u 2), .bool (u 3), .int .i64 (mo : Nat), .int .i64 (le : Nat)][j]? = some v → w1.cell? ⟨gn, j, none⟩ = some v from fun j v hv => by have h := block_range hdb j v (by simpa using hv); simpa using h)
  have HDU := Shut.mk (show w1.cell? ⟨gn, 4 + c, none⟩ = some (.bool (u c)) from HD.out (4 + c) _ (napC_u ⟨th, asl, ask, opn, mo, le, u⟩ hc))
  have HB1 := Shut.mk (show Below w.heap.size w w1 by rw [hw1]; exact HAd.out.trans ((only_setRow _ gn _).below (fun i hi e => by have e : i = gn := e; omega) HAd.out.size))
  have HW1 := Shut.mk hw1.symm
  have e1 : (0 : Int) ≤ (k : Int) := by omega
  have e2 : (k : Int) < 17 := by omega
  have e3 : (0 : Int) ≤ (c : Int) := by omega
  have e4 : (c : Int) < 4 := by omega
  have HUC := Shut.mk (show u c = u c from rfl)
  obtain ⟨uc, huc⟩ : ∃ b, b = u c := ⟨_, rfl⟩
  rw [← huc] at HDU ⊢
  clear h k1 k2 hx ht hc hgn hw1 hdb huc HUC
  cases asl with
  | false =>
    go_enter Tryd.func29, Tryd.ntmps29
    go_wp2_with (fail)
    refine HT.out.mono ?_
    rintro e w' ⟨rfl, rfl⟩
    go_wp2_with (fail)
    refine HC.out.mono ?_
    rintro e w' ⟨rfl, rfl⟩
    go_upto_region 4 with (first
      | (refine wpList_load_mid rfl 34 (.tmp 21) rfl g (k * 10) rfl [.bool th, .bool false, .bool ask, .bool opn, .bool (u 0), .bool (u 1), .bool (u 2), .bool (u 3), .int .i64 (mo : Nat), .int .i64 (le : Nat)] _ HRG.out Tryd.underlying34 rfl sizeNap ?_)
      | (refine wpList_store_row rfl 34 (.tmp 7) (.tmp 22) rfl gn #[.bool th, .bool false, .bool ask, .bool opn, .bool (u 0), .bool (u 1), .bool (u 2), .bool (u 3), .int .i64 (mo : Nat), .int .i64 (le : Nat)] (by show Value.pointer (some ⟨w.heap.size, 0, none⟩) = _; rw [HGN.out]) rfl 34 _ HXN.out sizeNap rfl (by simp [Value.oneCell']) ?_
         rw [HW1.out, ← HGN.out]))
    have d1 := HD.out 1 _ rfl
    have d2 := HD.out 2 _ rfl
    have d3 := HD.out 3 _ rfl
    have d4 := HDU.out
    clear HD HRG HT HC HXN HAd HW1 HGN
    simp only [Act.put]
    generalize Value.agg #[.bool th, .bool false, .bool ask, .bool opn, .bool (u 0), .bool (u 1), .bool (u 2), .bool (u 3), .int .i64 (mo : Nat), .int .i64 (le : Nat)] = v22
    go_wp2_with (fail)
    go_ret
    exact ⟨rfl, HB1.out⟩
  | true =>
    cases ask with
    | true =>
      go_enter Tryd.func29, Tryd.ntmps29
      go_wp2_with (fail)
      refine HT.out.mono ?_
      rintro e w' ⟨rfl, rfl⟩
      go_wp2_with (fail)
      refine HC.out.mono ?_
      rintro e w' ⟨rfl, rfl⟩
      go_upto_region 4 with (first
        | (refine wpList_load_mid rfl 34 (.tmp 21) rfl g (k * 10) rfl [.bool th, .bool true, .bool true, .bool opn, .bool (u 0), .bool (u 1), .bool (u 2), .bool (u 3), .int .i64 (mo : Nat), .int .i64 (le : Nat)] _ HRG.out Tryd.underlying34 rfl sizeNap ?_)
        | (refine wpList_store_row rfl 34 (.tmp 7) (.tmp 22) rfl gn #[.bool th, .bool true, .bool true, .bool opn, .bool (u 0), .bool (u 1), .bool (u 2), .bool (u 3), .int .i64 (mo : Nat), .int .i64 (le : Nat)] (by show Value.pointer (some ⟨w.heap.size, 0, none⟩) = _; rw [HGN.out]) rfl 34 _ HXN.out sizeNap rfl (by simp [Value.oneCell']) ?_
           rw [HW1.out, ← HGN.out]))
      have d1 := HD.out 1 _ rfl
      have d2 := HD.out 2 _ rfl
      have d3 := HD.out 3 _ rfl
      have d4 := HDU.out
      clear HD HRG HT HC HXN HAd HW1 HGN
      simp only [Act.put]
      generalize Value.agg #[.bool th, .bool true, .bool true, .bool opn, .bool (u 0), .bool (u 1), .bool (u 2), .bool (u 3), .int .i64 (mo : Nat), .int .i64 (le : Nat)] = v22
      go_wp2_with (fail)
      go_ret
      exact ⟨rfl, HB1.out⟩
    | false =>
      cases opn with
      | false =>
        go_enter Tryd.func29, Tryd.ntmps29
        go_wp2_with (fail)
        refine HT.out.mono ?_
        rintro e w' ⟨rfl, rfl⟩
        go_wp2_with (fail)
        refine HC.out.mono ?_
        rintro e w' ⟨rfl, rfl⟩
        go_upto_region 4 with (first
          | (refine wpList_load_mid rfl 34 (.tmp 21) rfl g (k * 10) rfl [.bool th, .bool true, .bool false, .bool false, .bool (u 0), .bool (u 1), .bool (u 2), .bool (u 3), .int .i64 (mo : Nat), .int .i64 (le : Nat)] _ HRG.out Tryd.underlying34 rfl sizeNap ?_)
          | (refine wpList_store_row rfl 34 (.tmp 7) (.tmp 22) rfl gn #[.bool th, .bool true, .bool false, .bool false, .bool (u 0), .bool (u 1), .bool (u 2), .bool (u 3), .int .i64 (mo : Nat), .int .i64 (le : Nat)] (by show Value.pointer (some ⟨w.heap.size, 0, none⟩) = _; rw [HGN.out]) rfl 34 _ HXN.out sizeNap rfl (by simp [Value.oneCell']) ?_
             rw [HW1.out, ← HGN.out]))
        have d1 := HD.out 1 _ rfl
        have d2 := HD.out 2 _ rfl
        have d3 := HD.out 3 _ rfl
        have d4 := HDU.out
        clear HD HRG HT HC HXN HAd HW1 HGN
        simp only [Act.put]
        generalize Value.agg #[.bool th, .bool true, .bool false, .bool false, .bool (u 0), .bool (u 1), .bool (u 2), .bool (u 3), .int .i64 (mo : Nat), .int .i64 (le : Nat)] = v22
        go_wp2_with (fail)
        go_ret
        exact ⟨rfl, HB1.out⟩
      | true =>
        go_enter Tryd.func29, Tryd.ntmps29
        go_wp2_with (fail)
        refine HT.out.mono ?_
        rintro e w' ⟨rfl, rfl⟩
        go_wp2_with (fail)
        refine HC.out.mono ?_
        rintro e w' ⟨rfl, rfl⟩
        go_upto_region 4 with (first
          | (refine wpList_load_mid rfl 34 (.tmp 21) rfl g (k * 10) rfl [.bool th, .bool true, .bool false, .bool true, .bool (u 0), .bool (u 1), .bool (u 2), .bool (u 3), .int .i64 (mo : Nat), .int .i64 (le : Nat)] _ HRG.out Tryd.underlying34 rfl sizeNap ?_)
          | (refine wpList_store_row rfl 34 (.tmp 7) (.tmp 22) rfl gn #[.bool th, .bool true, .bool false, .bool true, .bool (u 0), .bool (u 1), .bool (u 2), .bool (u 3), .int .i64 (mo : Nat), .int .i64 (le : Nat)] (by show Value.pointer (some ⟨w.heap.size, 0, none⟩) = _; rw [HGN.out]) rfl 34 _ HXN.out sizeNap rfl (by simp [Value.oneCell']) ?_
             rw [HW1.out, ← HGN.out]))
        have d1 := HD.out 1 _ rfl
        have d2 := HD.out 2 _ rfl
        have d3 := HD.out 3 _ rfl
        have d4 := HDU.out
        clear HD HRG HT HC HXN HAd HW1 HGN
        simp only [Act.put]
        generalize Value.agg #[.bool th, .bool true, .bool false, .bool true, .bool (u 0), .bool (u 1), .bool (u 2), .bool (u 3), .int .i64 (mo : Nat), .int .i64 (le : Nat)] = v22
        go_wp2_with (fail)
        go_ret
        exact ⟨rfl, HB1.out⟩
set_option maxRecDepth 100000 in
set_option maxHeartbeats 8000000 in
theorem rmay_t (g : Nat) (x : Nat → Nap) (a c : Int) (w : World) (h : IsRp w g x) :
    Calls Tryd.prog 29 #[.pointer (some ⟨g, 0, none⟩), .int .i64 a, .int .i64 c] w fun e w' => e = .returned (.bool (mayP x a c)) ∧ Below w.heap.size w w' := by
  unfold mayP
  cases ht : thP x a with
  | false =>
    have HT := Shut.mk (rthere_any g x a w h)
    rw [ht] at HT
    clear h ht
    go_enter Tryd.func29, Tryd.ntmps29
    go_wp2_with (fail)
    refine HT.out.mono ?_
    rintro e w' ⟨rfl, rfl⟩
    go_wp2_with (fail)
    go_ret
    exact ⟨rfl, Below.refl _ _⟩
  | true =>
    cases hc : acP c with
    | false =>
      have HT := Shut.mk (rthere_any g x a w h)
      rw [ht] at HT
      have HC := Shut.mk (rcat_any c w)
      rw [hc] at HC
      clear h ht hc
      go_enter Tryd.func29, Tryd.ntmps29
      go_wp2_with (fail)
      refine HT.out.mono ?_
      rintro e w' ⟨rfl, rfl⟩
      go_wp2_with (fail)
      refine HC.out.mono ?_
      rintro e w' ⟨rfl, rfl⟩
      go_wp2_with (fail)
      go_ret
      exact ⟨rfl, Below.refl _ _⟩
    | true =>
      obtain ⟨k, rfl, k1, k2⟩ := aidP_nat (th_aid ht)
      obtain ⟨n, rfl, hn⟩ := acP_nat hc
      have hth := th_there ht
      rw [Int.toNat_natCast] at hth ⊢
      rw [Int.toNat_natCast]
      refine (rmay_in g k n x (x k).there (x k).asleep (x k).asked (x k).opn (x k).most (x k).left (x k).u w h k1 k2 rfl ht hn).mono ?_
      rintro e w' ⟨rfl, hb⟩
      refine ⟨?_, hb⟩
      unfold mayN
      rw [hth]
      rfl
end Go.Proofs.YtaiegmnjoffloaaDoor
