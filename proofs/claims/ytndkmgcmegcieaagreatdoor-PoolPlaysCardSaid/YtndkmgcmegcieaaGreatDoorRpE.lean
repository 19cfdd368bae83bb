/-
  THE REFERENCE's POOL: Drop.
-/
import Derived.Test.YtndkmgcmegcieaaGreatDoorRpD
import Derived.Test.YtndkmgcmegcieaaGreatDoorPoolI
namespace Go.Proofs.YtndkmgcmegcieaaGreatDoor
open Go.ChangeShapes Go.WideShapes Go.ChangeAt Go.RowKit Go.Deep
set_option linter.unusedVariables false
set_option linter.unusedSimpArgs false
structure RDropL (T : Nat → Prop) (w : World) (g : Nat) (h : Hd) (X : Nat → Option Qs) (a k : Nat) (u : Value) (wr : World) (X1 : Nat → Option Qs) : Prop where
 is : IsRpl T wr g h X1
 st : RlS T w g X T wr X1
 full : FullR X1
 mod : mR X1 = clrM (mR X) a k
 own : OwnP T wr w.heap.size u (dropA (mR X) a k)
 ap : ∀ i, FootL g X1 i → u.ownBlock ≠ some i
set_option maxRecDepth 100000 in
set_option maxHeartbeats 8000000 in
theorem refdrop_p_no (w : World) (g : Nat) (aid : Int) (hk : ∀ t : Int, ¬ knownP aid t) :
 Calls Tryz.prog 18 #[.pointer (some ⟨g, 0, none⟩), .int .i64 aid] w fun e w' => e = .returned (.slice none 0 0) ∧ w = w' := by
 have HKT := Shut.mk (fun w => there_any aid 0 w false ⟨fun e => (by cases e), fun e => absurd e (hk 0)⟩)
 clear hk
 go_enter Tryz.func18, Tryz.ntmps18
 go_wp2_with (fail)
 go_loopw [5, 6] (fun u i wr => u = .slice none 0 0 ∧ i = .int .i64 0 ∧ w = wr) (fun _ i _ => 0)
 case atStart => exact ⟨rfl, rfl, rfl⟩
 case round =>
  obtain ⟨rfl, rfl, rfl⟩ := hrel
  go_wp2_with (fail)
  refine (HKT.out w).mono ?_
  rintro e wn ⟨rfl, rfl⟩
  go_wp2_with (fail)
  go_ret
  exact ⟨rfl, rfl⟩
set_option maxRecDepth 100000 in
set_option maxHeartbeats 16000000 in
theorem refdrop_p_in {T : Nat → Prop} {w : World} {g : Nat} {hd : Hd} {X : Nat → Option Qs} (hp : IsRpl T w g hd X) (hf : FullR X) (a : Nat) (ha : a < 16) (aid : Int) (hai : aid = (a : Int) + 1) (hl : (allP (mR X) 128).length ≤ 1000) :
 Calls Tryz.prog 18 #[.pointer (some ⟨g, 0, none⟩), .int .i64 aid] w fun e w' => ∃ u X', e = .returned u ∧ RDropL T w g hd X a 8 u w' X' := by
 have HL0 := Shut.mk (show RDropL T w g hd X a 0 (.slice none 0 0) w X from ⟨hp, RlS.refl, hf, by funext j; unfold clrM; rw [if_neg (by omega)], OwnK.nil _ _ _ _, fun i hi e => by cases e⟩)
 have HLT := Shut.mk (show ∀ i, FootL g X i ∨ T i → i < w.heap.size from fun i hi => hi.elim hp.lts (hp.there i))
 have HTT := Shut.mk hp.there
 have HLN := Shut.mk (show ∀ k, k ≤ 8 → (dropA (mR X) a k).length ≤ 1000 from fun k hk => by
  have := (all_drops (mR X) ha k hk).length_eq
  rw [List.length_append] at this
  omega)
 have HKT := Shut.mk (fun (k : Nat) (hk : k < 8) w => there_any aid (k : Int) w true ⟨fun _ => ⟨⟨by omega, by omega⟩, by omega, by omega⟩, fun _ => rfl⟩)
 obtain ⟨a1, ha1⟩ : ∃ a1 : Nat, a1 = a + 1 := ⟨_, rfl⟩
 have HA1 := Shut.mk ha1
 obtain rfl : aid = (a1 : Int) := by omega
 have hai7 : (a1 : Int) < 17 := by omega
 have HA17 := Shut.mk hai7
 clear hp hl hf ha1 hai
 go_enter Tryz.func18, Tryz.ntmps18
 go_wp2_with (fail)
 go_loopw [5, 6] (fun u i wr => ∃ (k : Nat), k ≤ 8 ∧ i = .int .i64 k ∧ ∃ X1, RDropL T w g hd X a k u wr X1) (fun _ i _ => 8 - (intOf i).toNat)
 case atStart => exact ⟨0, by omega, rfl, _, HL0.out⟩
 case round =>
  clear HL0
  obtain ⟨k, hk, rfl, X1, hL⟩ := hrel
  have HL := Shut.mk hL
  clear hL
  by_cases hlt : k < 8
  ·have hlti : (k : Int) < 8 := by omega
   have HT8 := Shut.mk hlti
   have HK := Shut.mk (show a1 * 8 + k < 136 by have := HA1.out; omega)
   go_wp2_with (fail)
   refine (HKT.out k hlt wr).mono ?_
   rintro e wn ⟨rfl, rfl⟩
   obtain ⟨s, hx⟩ := HL.out.full _ HK.out
   have HSQ := Shut.mk (show s.q = mR X (8 * a + k) by
    have h1 := HA1.out
    rw [h1] at hx
    rw [← mR_some hx, HL.out.mod, clrM_at])
   have HQ := Shut.mk (HL.out.is.qs _ HK.out s hx)
   have hcell := HL.out.is.at_ (a := a1) (by have := HA1.out; omega) hlt hx
   clear hx
   go_wp2_with (fail)
   refine (refall_any T wr s.x s.V s.q HQ.out.is HQ.out.few.len).mono ?_
   rintro e w5 ⟨v, rfl, hO3, hB5⟩
   have HO3 := Shut.mk hO3
   have HB5 := Shut.mk hB5
   have HU := Shut.mk (show ∀ i, u5.ownBlock = some i → w.heap.size ≤ i ∧ i < wr.heap.size from fun i hi => OwnP.lt HL.out.own i hi)
   have HWS := Shut.mk (show w.heap.size ≤ wr.heap.size from HL.out.st.only.size)
   have HOL := Shut.mk (show OwnP T w5 w.heap.size u5 (dropA (mR X) a k) from OwnK.below HL.out.own hB5)
   have HDD := Shut.mk (show ∀ i, u5.ownBlock = some i → ¬ T i from fun i hi e => by have h1 := (HU.out i hi).1; have h2 := HTT.out i e; omega)
   have HTW := Shut.mk (show ∀ i, T i → i < w5.heap.size from fun i hi => by have h1 := HTT.out i hi; have h2 := HWS.out; have h3 := HB5.out.size; omega)
   have HLE := Shut.mk (show (dropA (mR X) a k).length + (allQ s.q).length ≤ 1000000 by
    have h1 := HLN.out (k + 1) (by omega)
    rw [dropA_succ, List.length_append, ← HSQ.out] at h1
    omega)
   clear hO3 hB5 hcell
   go_wp2_with (first
    | (refine app_ps T T T rfl (.tmp 16) (.tmp 25) rfl w.heap.size wr.heap.size u5 v (dropA (mR X) a k) (allQ s.q) rfl rfl HOL.out HO3.out (fun _ h => h) (fun _ h => h) HDD.out HTW.out HLE.out (Nat.le_trans HWS.out HB5.out.size) ?_
       intro v6 w6 HO6 HY6 HZ6
       have HP6 := Shut.mk (((HL.out.is.quiet HB5.out).only HY6.out (fun i hi e => HL.out.ap i hi e) (fun i hi e => HDD.out i e hi)))
       have HS6 := Shut.mk (((HL.out.st.quiet HB5.out).over HY6.out fun i e => (HU.out i e).1))
       have HAP6 := Shut.mk (show ∀ i, FootL g X1 i → v6.ownBlock ≠ some i from fun i hi e => by
        rcases HZ6.out i e with h1 | h1
        ·exact HL.out.ap i hi h1
        ·have := (HL.out.is.quiet HB5.out).lts hi; omega)
       obtain ⟨w7, hw7⟩ : ∃ wq, wq = World.drew w6 := ⟨_, rfl⟩
       have HWw7 := Shut.mk hw7
       have HDw7 := Shut.mk (show Below w6.heap.size w6 w7 by rw [hw7]; exact (Below.refl _ _).drew)
       clear hw7
       have HP7 := Shut.mk (HP6.out.quiet HDw7.out)
       obtain ⟨pre, post, hpl, hsp, hsu⟩ := rpC_split hd X1 HK.out
       have HPL := Shut.mk (show pre.length = 5 + a1 * 8 + k by rw [hpl]; omega)
       have HSP := Shut.mk hsp
       have HSU := Shut.mk (show ∀ s : Qs, rpC hd (updF X1 (a1 * 8 + k) (some s)) = pre ++ [Value.pointer (some ⟨s.x.g, 0, none⟩)] ++ post from fun s => hsu (some s))
       clear hpl hsp hsu))
   refine wp_region_D (fun w' => Below w7.heap.size w7 w') 20 (by kernel_rfl) (show Below w7.heap.size w7 (World.drew w6) by rw [HWw7.out]; exact Below.refl _ _) (fun hHeld hC => ?_)
   rw [← HWw7.out] at hHeld ⊢
   refine dP 0 hC hHeld ?_; clear hC; intro hC
   refine dP 1 hC hHeld ?_; clear hC; intro hC
   refine dP 2 hC hHeld ?_; clear hC; intro hC
   refine dP 3 hC hHeld ?_; clear hC; intro hC
   refine dP 4 hC hHeld ?_; clear hC; intro hC
   refine dP 5 hC hHeld ?_; clear hC; intro hC
   refine dT 6 hC hHeld (fun w hSw => (show w.cell? ⟨g, 0, none⟩ = some (.int .u32 (uv hd.seed)) from below_at hSw HP7.out.head.1)) ?_; clear hC; intro hC
   refine dP 7 hC hHeld ?_; clear hC; intro hC
   refine dP 8 hC hHeld ?_; clear hC; intro hC
   refine dP 9 hC hHeld ?_; clear hC; intro hC
   refine dT 10 hC hHeld (fun w hSw => (show w.cell? ⟨g, 1, none⟩ = some (.int .i64 hd.tg) from below_at hSw HP7.out.head.2.1)) ?_; clear hC; intro hC
   refine dP 11 hC hHeld ?_; clear hC; intro hC
   refine dP 12 hC hHeld ?_; clear hC; intro hC
   refine dP 13 hC hHeld ?_; clear hC; intro hC
   refine dT 14 hC hHeld (fun w hSw => (show w.cell? ⟨g, 2, none⟩ = some (.int .i64 hd.iv) from below_at hSw HP7.out.head.2.2.1)) ?_; clear hC; intro hC
   refine dP 16 hC hHeld ?_; clear hC; intro hC
   refine dP 17 hC hHeld ?_; clear hC; intro hC
   refine wpAnyD_pure (i := 18) (v := ?_) rfl hC (by kernel_rfl) (by kernel_rfl) (by kernel_rfl) (by decide) (fun _ _ _ h => h) (Or.inl ⟨by rfl, ?_⟩) (fun _ => hHeld) ?_
   rotate_left
   ·intro w hSw
    have h17 := HA17.out
    clear hSw
    go_simp
    try with_reducible rfl
   try simp only [Act.put, sG1, sG2, sG3, sG4, sG5, sG6]
   clear hC
   intro hC
   refine wpAnyD_one (i := 15) (by kernel_rfl) rfl hC (fun K hK => ?_)
   clear hC
   go_simp
   refine (refnew_any (uv hd.seed) hd.tg hd.iv w7).mono ?_
   rintro e' wv1 ⟨rfl, hQ, hB⟩
   obtain ⟨xg, hxg⟩ : ∃ s, s = w7.heap.size := ⟨_, rfl⟩
   rw [← hxg] at hQ
   have HXG := Shut.mk (show w6.heap.size ≤ xg by rw [hxg]; exact Nat.le_trans HDw7.out.size hHeld.size)
   have HBN := Shut.mk (HDw7.out.trans ((hHeld.trans (hB.mono hHeld.size)).mono HDw7.out.size))
   have HPN := Shut.mk (HP6.out.quiet HBN.out)
   have HBK := Shut.mk (show wv1.heap[g]? = some (.cells (pre ++ [ptrQ (X1 (a1 * 8 + k))] ++ post).toArray 66 (0, 0)) by rw [← HSP.out]; exact HPN.out.blk)
   have hmade := HPN.out.made HK.out HBN.out HP6.out HXG.out hQ
   obtain ⟨w8, hw8⟩ : ∃ w8, w8 = wv1.setRow g (rpC hd (updF X1 (a1 * 8 + k) (some ⟨⟨xg, uv hd.seed, hd.tg, hd.iv⟩, V00, quZ⟩))).toArray := ⟨_, rfl⟩
   rw [← hw8] at hmade
   have HW8 := Shut.mk (show wv1.setRow g (pre ++ [Value.pointer (some ⟨xg, 0, none⟩)] ++ post).toArray = w8 by rw [hw8, HSU.out ⟨⟨xg, uv hd.seed, hd.tg, hd.iv⟩, V00, quZ⟩])
   have HPP := Shut.mk hmade.1
   have HSA := Shut.mk hmade.2
   clear hmade hw8
   rw [← hxg]
   clear hQ hxg
   have hHeld2 := hHeld.trans (hB.mono hHeld.size)
   clear hB
   clear hHeld
   have hHeld := hHeld2
   clear hHeld2
   refine hK.out _ _ (fun _ => hHeld) (fun hC => ?_)
   clear hK K
   try simp only [Act.put, sG1, sG2, sG3, sG4, sG5, sG6]
   refine wpAnyD_pure (i := 19) (v := ?_) rfl hC (by kernel_rfl) (by kernel_rfl) (by kernel_rfl) (by decide) (fun _ _ _ h => h) (Or.inl ⟨by rfl, ?_⟩) (fun _ => hHeld) ?_
   rotate_left
   ·intro w hSw
    have h8 := HT8.out
    clear hSw
    go_simp
    try with_reducible rfl
   try simp only [Act.put, sG1, sG2, sG3, sG4, sG5, sG6]
   clear hC
   intro hC
   refine wpAnyD_one (i := 20) (by kernel_rfl) rfl hC (fun K hK => ?_)
   clear hC
   refine step_store_fld rfl 62 (.tmp 46) (.tmp 42) rfl g (5 + a1 * 8 + k) 0 (.pointer (some ⟨xg, 0, none⟩)) rfl rfl rfl 66 pre [ptrQ (X1 (a1 * 8 + k))] [.pointer (some ⟨xg, 0, none⟩)] post HBK.out HPL.out size1Rq (by show 0 < 1; omega) rfl ?_
   rw [show World.setRow wv1 g _ = w8 from HW8.out]
   refine hK.out _ _ (past (by kernel_rfl)) (fun hC => ?_)
   clear hK K
   try simp only [Act.put, sG1, sG2, sG3, sG4, sG5, sG6]
   refine wpAnyD_done (by kernel_rfl) ?_ _
   try simp only [Act.put, sG1, sG2, sG3, sG4, sG5, sG6]
   have HNX := Shut.mk (show RDropL T w g hd X a (k + 1) v6 w8 (updF X1 (a1 * 8 + k) (some ⟨⟨xg, uv hd.seed, hd.tg, hd.iv⟩, V00, quZ⟩)) from
    {is := HPP.out
     st := HS6.out.trans HSA.out
     full := full_upd HL.out.full _ _
     mod := by
      have h1 := HA1.out
      subst h1
      rw [mR_upd, HL.out.mod, clrM_succ]
     own := by
      rw [dropA_succ, ← HSQ.out]
      exact OwnK.only HO6.out HSA.out.only (fun i hi e => HAP6.out i e hi) (fun i hi e => HP6.out.foot e hi)
     ap := fun i hi e => by
      rcases HSA.out.fresh i hi with h1 | h1
      ·exact HAP6.out i h1 e
      ·have := (OwnP.lt HO6.out i e).2; omega })
   clear hC HPP HSA HW8 HBK HPN HBN HXG
   go_wp2_with (fail)
   go_roundw
   case rel => exact ⟨k + 1, by omega, by go_num, _, HNX.out⟩
   case measure => simp [intOf]; omega
  ·have hk' : k = 8 := by omega
   subst hk'
   go_wp2_with (fail)
   go_ret
   exact ⟨_, X1, rfl, HL.out⟩
end Go.Proofs.YtndkmgcmegcieaaGreatDoor
