/-
  CONTRACT of pool's Drop.
-/
import Derived.Test.YtndkmgcmegcieaaGreatDoorPoolG
namespace Go.Proofs.YtndkmgcmegcieaaGreatDoor
open Go.ChangeShapes Go.WideShapes Go.ChangeAt Go.RowKit Go.Deep
set_option linter.unusedVariables false
set_option linter.unusedSimpArgs false
def clrX (X : Nat → Option Qs) (a k : Nat) : Nat → Option Qs := fun j => if 8 * a ≤ j ∧ j < 8 * a + k then none else X j
def clrM (M : Nat → Qu) (a k : Nat) : Nat → Qu := fun j => if 8 * a ≤ j ∧ j < 8 * a + k then quZ else M j
def dropA (M : Nat → Qu) (a k : Nat) : List Pk := (List.range k).flatMap fun t => allQ (M (8 * a + t))
theorem clrX_zero (X : Nat → Option Qs) (a : Nat) : clrX X a 0 = X := by funext j; unfold clrX; rw [if_neg (by omega)]
theorem clrX_at (X : Nat → Option Qs) (a k : Nat) : clrX X a k (8 * a + k) = X (8 * a + k) := by unfold clrX; rw [if_neg (by omega)]
theorem clrX_succ (X : Nat → Option Qs) (a k : Nat) : updF (clrX X a k) (8 * a + k) none = clrX X a (k + 1) := by
 funext j
 by_cases e : j = 8 * a + k
 ·subst e; rw [updF_same]; unfold clrX; rw [if_pos (by omega)]
 ·rw [updF_other _ _ e]
  unfold clrX
  by_cases h : 8 * a ≤ j ∧ j < 8 * a + k
  ·rw [if_pos h, if_pos (by omega)]
  ·rw [if_neg h, if_neg (by omega)]
theorem clrX_none {X : Nat → Option Qs} {a k : Nat} (h : X (8 * a + k) = none) : clrX X a (k + 1) = clrX X a k := by
 rw [← clrX_succ]
 funext j
 by_cases e : j = 8 * a + k
 ·subst e; rw [updF_same, clrX_at, h]
 ·rw [updF_other _ _ e]
theorem mOf_clrX (X : Nat → Option Qs) (a k : Nat) : mOf (clrX X a k) = clrM (mOf X) a k := by
 funext j
 unfold clrM
 by_cases h : 8 * a ≤ j ∧ j < 8 * a + k
 ·rw [if_pos h]
  exact mOf_none (by unfold clrX; rw [if_pos h])
 ·rw [if_neg h]
  unfold mOf clrX
  rw [if_neg h]
theorem dropA_succ (M : Nat → Qu) (a k : Nat) : dropA M a (k + 1) = dropA M a k ++ allQ (M (8 * a + k)) := by unfold dropA; rw [List.range_succ, List.flatMap_append]; simp
theorem foot_clr {g : Nat} {X : Nat → Option Qs} {a k i : Nat} (h : FootP g (clrX X a k) i) : FootP g X i := by
 rcases h with h | ⟨j, s, hj, hs, h⟩
 ·exact .inl h
 ·refine .inr ⟨j, s, hj, ?_, h⟩
  unfold clrX at hs
  split at hs
  ·cases hs
  ·exact hs
theorem clrM_succ (M : Nat → Qu) (a k : Nat) : updF (clrM M a k) (8 * a + k) quZ = clrM M a (k + 1) := by
 funext j
 by_cases e : j = 8 * a + k
 ·subst e; rw [updF_same]; unfold clrM; rw [if_pos (by omega)]
 ·rw [updF_other _ _ e]
  unfold clrM
  by_cases h : 8 * a ≤ j ∧ j < 8 * a + k
  ·rw [if_pos h, if_pos (by omega)]
  ·rw [if_neg h, if_neg (by omega)]
theorem clrM_at (M : Nat → Qu) (a k : Nat) : clrM M a k (8 * a + k) = M (8 * a + k) := by unfold clrM; rw [if_neg (by omega)]
theorem allP_out {M : Nat → Qu} {k : Nat} : ∀ n, k < n → (allP M n).Perm (allQ (M k) ++ allP (updF M k quZ) n)
 | 0, h => by omega
 | n + 1, h => by
  rw [allP_succ, allP_succ]
  by_cases e : k = n
  ·subst e
   rw [updF_same, allQ_Z, List.append_nil, allP_congr (N := updF M k quZ) k fun j hj => by rw [updF_other _ _ (by omega)]]
   exact List.perm_append_comm
  ·rw [updF_other _ _ (fun e2 => e e2.symm), ← List.append_assoc]
   exact List.Perm.append_right _ (allP_out n (by omega))
theorem all_drops (M : Nat → Qu) {a : Nat} (ha : a < 16) : ∀ k, k ≤ 8 → (allP M 128).Perm (dropA M a k ++ allP (clrM M a k) 128)
 | 0, _ => by
  have : clrM M a 0 = M := by funext j; unfold clrM; rw [if_neg (by omega)]
  rw [this]; exact List.Perm.refl _
 | k + 1, hk => by
  have h1 := all_drops M ha k (by omega)
  have h2 := allP_out (M := clrM M a k) (k := 8 * a + k) 128 (by omega)
  rw [clrM_at, clrM_succ] at h2
  rw [dropA_succ, List.append_assoc]
  exact h1.trans (List.Perm.append_left _ h2)
structure DropL (T : Nat → Prop) (w : World) (g : Nat) (h : Hd) (X : Nat → Option Qs) (a k : Nat) (u : Value) (wr : World) (T2 : Nat → Prop) : Prop where
 is : IsPool T wr g h (clrX X a k)
 st : PlS T w g X T wr (clrX X a k)
 own : OwnP T2 wr w.heap.size u (dropA (mOf X) a k)
 new : ∀ i, T2 i → w.heap.size ≤ i ∧ i < wr.heap.size
set_option maxRecDepth 100000 in
set_option maxHeartbeats 8000000 in
theorem drop_p_any {T : Nat → Prop} {w : World} {g : Nat} {hd : Hd} {X : Nat → Option Qs} (hp : IsPool T w g hd X) (a : Nat) (ha : a < 16) (hl : (allP (mOf X) 128).length ≤ 1000) :
 Calls Tryz.prog 17 #[.pointer (some ⟨g, 0, none⟩), .int .i64 ((a : Int) + 1)] w fun e w' => ∃ u T2, e = .returned u ∧ DropL T w g hd X a 8 u w' T2 := by
 have HL0 := Shut.mk (show DropL T w g hd X a 0 (.slice none 0 0) w (fun _ => False) from ⟨by rw [clrX_zero]; exact hp, by rw [clrX_zero]; exact PlS.refl, OwnK.nil _ _ _ _, fun i hi => hi.elim⟩)
 have HLT := Shut.mk (show ∀ i, FootP g X i ∨ T i → i < w.heap.size from fun i hi => hi.elim hp.lts (hp.there i))
 have HLN := Shut.mk (show ∀ k, k ≤ 8 → (dropA (mOf X) a k).length ≤ 1000 from fun k hk => by
  have := (all_drops (mOf X) ha k hk).length_eq
  rw [List.length_append] at this
  omega)
 have HWA := Shut.mk (show IntKind.i64.wrap (a : Int) = (a : Int) from IntWalk.i64_in _ ⟨by omega, by omega⟩)
 have HWB := Shut.mk (show IntKind.i64.wrap ((a : Int) + 1 - 1) = (a : Int) by rw [IntWalk.i64_in _ ⟨by omega, by omega⟩]; omega)
 have ha16 : (a : Int) < 16 := by omega
 clear hp hl
 go_enter Tryz.func17, Tryz.ntmps17
 go_wp2_with (fail)
 go_loopw [5, 8] (fun u i wr => ∃ (k : Nat), k ≤ 8 ∧ i = .int .i64 k ∧ ∃ T2, DropL T w g hd X a k u wr T2) (fun _ i _ => 8 - (intOf i).toNat)
 case atStart => exact ⟨0, by omega, rfl, _, HL0.out⟩
 case round =>
  clear HL0
  obtain ⟨k, hk, rfl, T2, hL⟩ := hrel
  have HL := Shut.mk hL
  clear hL
  by_cases hlt : k < 8
  ·have hlti : (k : Int) < 8 := by omega
   go_wp2_with (fail)
   refine (queue_in HL.out.is a k ha hlt).mono ?_
   rintro e wn ⟨rfl, rfl⟩
   rw [clrX_at]
   cases hx : X (8 * a + k) with
   | none =>
    have HN := Shut.mk (show DropL T w g hd X a (k + 1) u5 wr T2 from
     ⟨by rw [clrX_none hx]; exact HL.out.is, by rw [clrX_none hx]; exact HL.out.st, by rw [dropA_succ, mOf_none hx, allQ_Z, List.append_nil]; exact HL.out.own, HL.out.new⟩)
    rw [show ptrQ none = Value.pointer none from rfl]
    clear hx
    go_wp2_with (fail)
    go_roundw
    case rel => exact ⟨k + 1, by omega, by go_num, T2, HN.out⟩
    case measure => simp [intOf]; omega
   | some s =>
    have HQ := Shut.mk (HL.out.is.qs (8 * a + k) (by omega) s (by rw [clrX_at]; exact hx))
    have HXS := Shut.mk hx
    rw [show ptrQ (some s) = Value.pointer (some ⟨s.x.g, 0, none⟩) from rfl]
    clear hx
    go_wp2_with (fail)
    refine (all_any T wr s.x s.V s.q HQ.out.is HQ.out.few).mono ?_
    rintro e w5 ⟨v, T3, rfl, hO3, hT3, hB5⟩
    have HO3 := Shut.mk hO3
    have HT3 := Shut.mk hT3
    have HB5 := Shut.mk hB5
    have HU := Shut.mk (show ∀ i, u5.ownBlock = some i → w.heap.size ≤ i ∧ i < wr.heap.size from fun i hi => OwnP.lt HL.out.own i hi)
    have HWS := Shut.mk (show w.heap.size ≤ wr.heap.size from HL.out.st.only.size)
    have HOL := Shut.mk (show OwnP T2 w5 w.heap.size u5 (dropA (mOf X) a k) from OwnK.below HL.out.own hB5)
    have HDD := Shut.mk (show ∀ i, u5.ownBlock = some i → ¬ (T2 i ∨ T3 i) from fun i hi e => by
     rcases e with e | e
     ·obtain ⟨l', -, -, -, h5⟩ := HL.out.own
      exact h5 i hi e
     ·have h1 := (HT3.out i e).1; have h2 := (HU.out i hi).2; omega)
    have HTT := Shut.mk (show ∀ i, T2 i ∨ T3 i → w.heap.size ≤ i ∧ i < w5.heap.size from fun i hi => by
     have h1 := HWS.out
     have h2 := HB5.out.size
     rcases hi with hi | hi
     ·have := HL.out.new i hi; omega
     ·have := HT3.out i hi; omega)
    have HLE := Shut.mk (show (dropA (mOf X) a k).length + (allQ s.q).length ≤ 1000000 by
     have h1 := HLN.out (k + 1) (by omega)
     rw [dropA_succ, List.length_append, mOf_some HXS.out] at h1
     omega)
    obtain ⟨pre, post, hpl, hsp, hsu⟩ := plC_split hd (clrX X a k) (k := 8 * a + k) (by omega)
    have HPL := Shut.mk (show pre.length = 5 + a * 8 + k by rw [hpl]; omega)
    have HSP := Shut.mk hsp
    have HSU := Shut.mk (show plC hd (clrX X a (k + 1)) = pre ++ [Value.pointer none] ++ post by rw [← clrX_succ]; exact hsu none)
    clear hO3 hT3 hB5 hpl hsp hsu
    have hwa := HWA.out
    have hwb := HWB.out
    go_wp2_with (first
     | (refine app_ps T2 T3 (fun i => T2 i ∨ T3 i) rfl (.tmp 17) (.tmp 19) rfl w.heap.size wr.heap.size u5 v (dropA (mOf X) a k) (allQ s.q) rfl rfl HOL.out HO3.out (fun _ h => .inl h) (fun _ h => .inr h) HDD.out (fun i hi => (HTT.out i hi).2) HLE.out (Nat.le_trans HWS.out HB5.out.size) ?_
        intro v6 w6 HO6 HY6 HZ6
        have HP6 := Shut.mk (((HL.out.is.quiet HB5.out).only HY6.out (fun i hi e => by have h1 := HLT.out i (.inl (foot_clr hi)); have h2 := (HU.out i e).1; omega) (fun i hi e => by have h1 := HLT.out i (.inr hi); have h2 := (HU.out i e).1; omega)))
        have HBK := Shut.mk (show w6.heap[g]? = some (.cells (pre ++ [ptrQ (clrX X a k (8 * a + k))] ++ post).toArray 57 (0, 0)) by rw [← HSP.out]; exact HP6.out.blk))
     | (refine wpList_store_fld rfl 53 (.tmp 28) _ rfl g (5 + a * 8 + k) 0 (.pointer none) rfl rfl rfl 57 pre [ptrQ (clrX X a k (8 * a + k))] [.pointer none] post HBK.out HPL.out size1Q (by show 0 < 1; omega) rfl ?_
        rw [← HSU.out]))
    have HT7 := Shut.mk (HP6.out.turn (k := 8 * a + k) (by omega) (o := none) (fun s hs => by cases hs))
    have h7 := HT7.out
    rw [clrX_succ] at h7
    have HO67 := Shut.mk (only_setRow w6 g (plC hd (clrX X a (k + 1))).toArray)
    have HGL := Shut.mk (show g < w.heap.size from HLT.out g (.inl (.inl rfl)))
    have HV6 := Shut.mk (show ∀ i, v6.ownBlock = some i → w.heap.size ≤ i from fun i hi => by
     rcases HZ6.out i hi with h1 | h1
     ·exact (HU.out i h1).1
     ·have h2 := HWS.out; have h3 := HB5.out.size; omega)
    have HNX := Shut.mk (show DropL T w g hd X a (k + 1) v6 (w6.setRow g (plC hd (clrX X a (k + 1))).toArray) (fun i => T2 i ∨ T3 i) from
     {is := h7
      st := by
       have s1 : PlS T w g X T w6 (clrX X a k) := (HL.out.st.quiet HB5.out).over HY6.out fun i e => (HU.out i e).1
       refine s1.trans ⟨HO67.out.mono fun i _ e => .inl e, fun i hi => ?_, fun i hi => .inl hi, fun i hi => hi⟩
       rcases hi with e | ⟨j, s, hj, hs, e⟩
       ·exact .inl (.inl e)
       ·rw [← clrX_succ] at hs
        by_cases e2 : j = 8 * a + k
        ·subst e2; rw [updF_same] at hs; cases hs
        ·rw [updF_other _ _ e2] at hs
         exact .inl (.inr ⟨j, s, hj, hs, e⟩)
      own := by
       rw [dropA_succ, mOf_some HXS.out]
       exact OwnK.only HO6.out HO67.out (fun i hi e => by have h1 := HV6.out i hi; have h2 := HGL.out; omega) (fun i hi e => by have h1 := (HTT.out i hi).1; have h2 := HGL.out; omega)
      new := fun i hi => ⟨(HTT.out i hi).1, Nat.lt_of_lt_of_le (HTT.out i hi).2 (Nat.le_trans HY6.out.size HO67.out.size)⟩ })
    clear h7 hwa hwb
    go_roundw
    case rel => exact ⟨k + 1, by omega, by go_num, _, HNX.out⟩
    case measure => simp [intOf]; omega
  ·have hk' : k = 8 := by omega
   subst hk'
   go_wp2_with (fail)
   go_ret
   exact ⟨_, T2, rfl, HL.out⟩
end Go.Proofs.YtndkmgcmegcieaaGreatDoor
