/-
  THE REFERENCE's QUEUE: All, Len.
-/
import Derived.Test.YtndkmgcmegcieaaGreatDoorFqRd
import Derived.Test.YtndkmgcmegcieaaGreatDoorMgF
import Derived.Test.YtndkmgcmegcieaaGreatDoorFqT
namespace Go.Proofs.YtndkmgcmegcieaaGreatDoor
open Go.ChangeShapes Go.WideShapes Go.ChangeAt Go.RowKit Go.Deep
set_option linter.unusedVariables false
set_option linter.unusedSimpArgs false
theorem allTo_le {q : Qu} (h : ∀ b, b < 16 → (q.fl b).pk.length ≤ 1000) : ∀ k, k ≤ 16 → (allTo q k).length ≤ 1000 * k
 | 0, _ => by simp [allTo]
 | k + 1, hk => by
  have h1 := allTo_le h k (by omega)
  have h2 := h k (by omega)
  have e : (allTo q (k + 1)).length = (allTo q k).length + (q.fl k).pk.length := by unfold allTo; rw [List.range_succ, List.flatMap_append, List.length_append]; simp
  omega
theorem allTo_next (q : Qu) (k : Nat) : allTo q (k + 1) = allTo q k ++ (q.fl k).pk := by unfold allTo; rw [List.range_succ, List.flatMap_append]; simp
set_option maxRecDepth 100000 in
set_option maxHeartbeats 8000000 in
theorem refall_any (T : Nat → Prop) (w : World) (x : Rq) (V : Nat → Value) (q : Qu) (h : IsRq T w x V q) (hn : ∀ b, b < 16 → (q.fl b).pk.length ≤ 1000) :
 Calls Tryz.prog 45 #[.pointer (some ⟨x.g, 0, none⟩)] w fun e w' => ∃ u, e = .returned u ∧ OwnP T w' w.heap.size u (allQ q) ∧ Below w.heap.size w w' := by
 have HQ := Shut.mk h
 have HLN := Shut.mk hn
 clear h hn
 go_enter Tryz.func45, Tryz.ntmps45
 go_wp2_with (fail)
 go_loopw [3, 4] (fun u fi wr => ∃ k : Nat, k ≤ 16 ∧ fi = .int .i64 k ∧ OwnP T wr w.heap.size u (allTo q k) ∧ Below w.heap.size w wr) (fun _ fi _ => 16 - (intOf fi).toNat)
 case atStart => exact ⟨0, Nat.zero_le _, rfl, OwnK.nil _ _ _ _, Below.refl _ _⟩
 case round =>
  obtain ⟨k, hk, rfl, hu, hb⟩ := hrel
  have HU := Shut.mk hu
  have HB := Shut.mk hb
  clear hu hb
  have HLK := Shut.mk (allTo_le HLN.out k hk)
  by_cases hk16 : k < 16
  ·have hki : (k : Int) < 16 := by omega
   have HQr := Shut.mk (HQ.out.below HB.out)
   have hc0 : wr.cell? ⟨x.g, 3 + k * 7, none⟩ = some (V k) := HQr.out.fl hk16 (j := 0) _ rfl
   have HNX := Shut.mk (allTo_next q k)
   have HLE := Shut.mk (show (allTo q k).length + (q.fl k).pk.length ≤ 1000000 by have h1 := HLK.out; have h2 := HLN.out k hk16; omega)
   have HPK := Shut.mk (HQr.out.pk k hk16)
   have HD := Shut.mk (show ∀ j, u3.ownBlock = some j → ¬ T j from fun j hj e => by have h1 := ownsP_new HU.out j hj; have h2 := HQ.out.there j e; omega)
   clear hk16
   go_wp2_with (at_builtin; refine app_ps T T T rfl (.tmp 9) (.tmp 16) rfl w.heap.size 0 u3 (V k) (allTo q k) (q.fl k).pk rfl rfl HU.out HPK.out (fun _ e => e) (fun _ e => e) HD.out (fun j hj => HQr.out.there j hj) HLE.out HB.out.size ?_; intro v' w2 HV2 HO2 HF2)
   have HB2 := Shut.mk (show Below w.heap.size w w2 from HB.out.trans (HO2.out.below (fun i hi e => by have := ownsP_new HU.out i e; omega) HB.out.size))
   go_roundw
   case rel => exact ⟨k + 1, by omega, by go_num, by rw [HNX.out]; exact HV2.out, HB2.out⟩
   case measure => simp [intOf]; omega
  ·obtain rfl : k = 16 := by omega
   obtain ⟨A, c, rfl, hrow, -⟩ := OwnP.row HU.out (by have := HLK.out; unfold maxLen; omega)
   have HPS := Shut.mk (packets_any T A c (allTo q 16) wr hrow (by have := HLK.out; omega) (fun k hk => Nat.lt_of_lt_of_le (HQ.out.there k hk) HB.out.size))
   generalize (allTo q 16).length = l at *
   go_wp2_with (fail)
   refine HPS.out.mono ?_
   rintro e w2 ⟨u, rfl, hu, hb, -⟩
   have HU2 := Shut.mk (OwnP.base hu HB.out.size)
   have HB2 := Shut.mk (HB.out.trans (hb.mono HB.out.size))
   clear hu hb
   go_wp2_with (fail)
   go_ret
   exact ⟨_, rfl, HU2.out, HB2.out⟩
set_option maxRecDepth 100000 in
set_option maxHeartbeats 8000000 in
theorem reflen_any (T : Nat → Prop) (w : World) (x : Rq) (V : Nat → Value) (q : Qu) (h : IsRq T w x V q) (hn : ∀ b, b < 16 → (q.fl b).pk.length ≤ 1000) :
 Calls Tryz.prog 39 #[.pointer (some ⟨x.g, 0, none⟩)] w fun e w' => e = .returned (.int .i64 ((allQ q).length : Nat)) ∧ Below w.heap.size w w' := by
 have HAL := Shut.mk (refall_any T w x V q h hn)
 have HLN := Shut.mk (allTo_le hn 16 (Nat.le_refl _))
 obtain ⟨l, hl⟩ : ∃ l, l = (allQ q).length := ⟨_, rfl⟩
 rw [← hl]
 have HL := Shut.mk hl
 clear h hn hl
 go_enter Tryz.func39, Tryz.ntmps39
 go_wp2_with (fail)
 refine HAL.out.mono ?_
 rintro e w2 ⟨u, rfl, hu, hb⟩
 obtain ⟨A, c, rfl, -, -⟩ := OwnP.row hu (by have := HLN.out; show (allTo q 16).length ≤ _; unfold maxLen; omega)
 have HB := Shut.mk hb
 clear hu hb
 rw [← HL.out]
 go_wp2_with (fail)
 go_ret
 exact ⟨rfl, HB.out⟩
end Go.Proofs.YtndkmgcmegcieaaGreatDoor
