/-
  muezzinlaw20.first.
-/
import Derived.Test.YtkmblmnffnhpmaaDoorSchedL
import Derived.Test.YtkmblmnffnhpmaaDoorIntsA
import Derived.StillTailTactics
import Derived.LoopTactic
namespace Go.Proofs.YtkmblmnffnhpmaaDoor
open Go.ChangeShapes Go.WideShapes Go.ChangeAt Go.RowKit Go.Deep
set_option linter.unusedVariables false
set_option linter.unusedSimpArgs false

set_option maxRecDepth 100000 in
set_option maxHeartbeats 8000000 in
theorem first_any {T : List Nat} (w : World) (E : Nat → Addr) (hS : Sent w E T) (h1 : 103 ∈ T) (h2 : 107 ∈ T) (h3 : 108 ∈ T) : Calls Tryd.prog 8 #[] w fun e w' => e = .returned (.bool true) ∧ Below w.heap.size w w' := by
  have HS := Shut.mk hS
  have HN := Shut.mk (new_l (Below.refl w.heap.size w))
  have q1 := Shut.mk (show ordI [] = [] from rfl)
  have q2 := Shut.mk (show addT [] 3 10 = ([⟨3, 10, 0, false⟩], 0) from rfl)
  have q3 := Shut.mk (show actT [⟨3, 10, 0, false⟩] 3 true = ([⟨3, 10, 0, true⟩], 0) from rfl)
  have q4 := Shut.mk (show ordI [⟨3, 10, 0, true⟩] = [3] from rfl)
  clear hS
  go_enter Tryd.func8, Tryd.ntmps8
  go_wp2_with (fail)
  refine HN.out.mono ?_
  rintro x w1 ⟨S, g, rfl, hl, hb, hs⟩
  have HL := Shut.mk hl
  clear hl hb hs HN
  go_wp2_with (fail)
  refine (order_l HL.out).mono ?_
  rintro x w2 ⟨A1, c1, rfl, hr, hp, S', hl, ho, hf, hq⟩
  rw [q1.out]
  have HL2 := Shut.mk hl
  clear hr hp hl ho hf hq HL
  go_wp2_with (fail)
  refine (add_l HL2.out (by decide) HS.out h1 h3 3 10).mono ?_
  rintro x w3 ⟨rfl, hst⟩
  rw [q2.out] at hst ⊢
  obtain ⟨S3, hl, ho, hf⟩ := hst
  rw [errV_zero]
  have HL3 := Shut.mk hl
  clear hl ho hf HL2
  go_wp2_with (fail)
  refine (active_l HL3.out HS.out h2 3 true).mono ?_
  rintro x w4 ⟨rfl, hst⟩
  rw [q3.out] at hst ⊢
  obtain ⟨S4, hl, ho, hf⟩ := hst
  rw [errV_zero]
  have HL4 := Shut.mk hl
  clear hl ho hf HL3
  go_wp2_with (fail)
  refine (order_l HL4.out).mono ?_
  rintro x w5 ⟨A2, c2, rfl, hr, hp, S5, hl, ho, hf, hq⟩
  rw [q4.out] at hr ⊢
  have HL5 := Shut.mk hl
  have HB5 := Shut.mk hl.bel
  have HA5 := Shut.mk ((Below.refl w5.heap.size w5).alloc (Nat.le_refl _) (Obj.cells #[.int .i64 3] 3 (0, 0)))
  have HR5 := Shut.mk (hr.below HA5.out)
  have HRB := Shut.mk (show RowB .i64 (w5.alloc (Obj.cells #[.int .i64 3] 3 (0, 0))) (some ⟨w5.heap.size, 0, none⟩) 1 [3] from ⟨rfl, by unfold maxLen; omega, fun i hi => by
    obtain rfl : i = 0 := by omega
    decide, fun _ => ⟨w5.heap.size, 0, rfl, fun i hi => by
    obtain rfl : i = 0 := by omega
    rw [World.cell?_alloc_new]
    rfl⟩⟩)
  clear hr hp hl ho hf hq HL4
  go_wp2_with (fail)
  refine (sameInts_any A2 (some ⟨w5.heap.size, 0, none⟩) 1 c2 1 1 [3] [3] _ HR5.out HRB.out).mono ?_
  rintro x w6 ⟨rfl, nn, rfl⟩
  rw [show sameB [3] [3] = true from rfl]
  have HBF := Shut.mk (below_drewN (HB5.out.trans (HA5.out.mono HB5.out.size)) nn)
  go_wp2_with (fail)
  go_ret
  exact ⟨rfl, HBF.out⟩
end Go.Proofs.YtkmblmnffnhpmaaDoor
