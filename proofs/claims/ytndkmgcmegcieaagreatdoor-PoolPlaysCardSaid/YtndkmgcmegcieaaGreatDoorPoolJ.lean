/-
  CONTRACT of pool's Take, where all is known.
-/
import Derived.Test.YtndkmgcmegcieaaGreatDoorPoolG
namespace Go.Proofs.YtndkmgcmegcieaaGreatDoor
open Go.ChangeShapes Go.WideShapes Go.ChangeAt Go.RowKit Go.Deep
set_option linter.unusedVariables false
set_option linter.unusedSimpArgs false
theorem takes_Z {P : Pl} {r : Option Pk} {ds : List Pk} {q' : Qu} (h : Takes P quZ [] r ds q') : r = none ∧ ds = [] ∧ q' = quZ := by
 have h1 := takes_one h (Takes.none (P := P) (q := quZ) (ds := []) rfl)
 exact ⟨h1.1, h1.2.1, h1.2.2⟩
structure TakePE (T : Nat → Prop) (w : World) (g : Nat) (hd : Hd) (X : Nat → Option Qs) (k : Nat) (r : Option Pk) (ds : List Pk) (q' : Qu) (e : Ending) (w' : World) : Prop where
 out : ∃ X' late T2 v, IsPool T w' g hd X' ∧ PlS T w g X T w' X' ∧ mOf X' = updF (mOf X) k q' ∧ OwnP T2 w' w.heap.size late ds ∧ (∀ i, T2 i → w.heap.size ≤ i ∧ i < w'.heap.size) ∧ TookE w w' r late v e ∧
  (∀ i, FootP g X' i → late.ownBlock ≠ some i ∧ ¬ T2 i ∧ v.ownBlock ≠ some i) ∧ (∀ i, v.ownBlock = some i → ¬ T2 i ∧ late.ownBlock ≠ some i)
set_option maxRecDepth 100000 in
set_option maxHeartbeats 8000000 in
theorem take_in_any {T : Nat → Prop} {w : World} {g : Nat} {hd : Hd} {X : Nat → Option Qs} (hp : IsPool T w g hd X) (a t : Nat) (ha : a < 16) (ht : t < 8) (aid tid : Int) (hai : aid = (a : Int) + 1) (hti : tid = (t : Nat)) (now : Int) (h0 : 0 ≤ now) (hM : now + 1073741824 ≤ 4503599627370496)
 (r : Option Pk) (ds : List Pk) (q' : Qu) (hT : Takes ⟨now, clampR hd.tg 0 1073741824, clampR hd.iv 0 1073741824⟩ (mOf X (8 * a + t)) [] r ds q') :
 Calls Tryz.prog 14 #[.pointer (some ⟨g, 0, none⟩), .int .i64 aid, .int .i64 tid, .int .i64 now] w fun e w' => TakePE T w g hd X (8 * a + t) r ds q' e w' := by
 subst hai
 subst hti
 have HB1 := Shut.mk ((Below.refl w.heap.size w).alloc (Nat.le_refl _) (Obj.cells #[Value.int .i64 0, .int .u32 0, .int .i64 0, .int .i64 0, Value.slice none 0 0] 35 (0, 0)))
 have HX1 := Shut.mk (MapKept.heap_alloc w (Obj.cells #[Value.int .i64 0, .int .u32 0, .int .i64 0, .int .i64 0, Value.slice none 0 0] 35 (0, 0))).1
 have HP1 := Shut.mk (hp.quiet HB1.out)
 have HLT := Shut.mk (show ∀ i, FootP g X i ∨ T i → i < w.heap.size from fun i hi => hi.elim hp.lts (hp.there i))
 have HTM := Shut.mk (show 0 ≤ now ∧ now + 1073741824 ≤ 4503599627370496 from ⟨h0, hM⟩)
 have HK := Shut.mk (show 8 * a + t < 128 by omega)
 clear hp h0 hM
 obtain ⟨s8, hs8⟩ : ∃ s, s = w.heap.size := ⟨_, rfl⟩
 have HS8 := Shut.mk hs8
 go_enter Tryz.func14, Tryz.ntmps14
 go_wp2_with (fail)
 rw [← hs8]
 rw [← hs8] at HX1 HLT
 clear hs8
 generalize World.alloc w _ = w1 at *
 refine (queue_in HP1.out a t ha ht).mono ?_
 rintro e wn ⟨rfl, rfl⟩
 cases hx : X (8 * a + t) with
 | none =>
  rw [mOf_none hx] at hT
  obtain ⟨rfl, rfl, rfl⟩ := takes_Z hT
  have HM := Shut.mk (show mOf X = updF (mOf X) (8 * a + t) quZ by
   funext j
   by_cases e : j = 8 * a + t
   ·subst e; rw [updF_same, mOf_none hx]
   ·rw [updF_other _ _ e])
  rw [show ptrQ none = Value.pointer none from rfl]
  have HX2 := Shut.mk (setRow_heap w1 s8 _ #[Value.int .i64 0, .int .u32 0, .int .i64 0, .int .i64 0, Value.slice none 0 0] _ (0, 0) HX1.out)
  have HO2 := Shut.mk (only_setRow w1 s8 #[Value.int .i64 0, .int .u32 0, .int .i64 0, .int .i64 0, Value.slice none 0 0])
  clear hx hT
  go_wp2_with (first
   | (refine wpList_store_row rfl 35 (.tmp 8) (.tmp 18) rfl s8 #[Value.int .i64 0, .int .u32 0, .int .i64 0, .int .i64 0, Value.slice none 0 0] rfl rfl 35 _ HX1.out size5 rfl (pkt_one _ _ _ _ _ _ _) ?_))
  have hs := HS8.out
  refine bodyPost_ret (v := .tuple #[.agg #[Value.int .i64 0, .int .u32 0, .int .i64 0, .int .i64 0, Value.slice none 0 0], .slice none 0 0, .bool false]) (results_ctt (p := 8) (q := 9) (r := 10) Tryz.results14 _ _ s8 _ _ _ _ _ _ rfl rfl rfl HX2.out Tryz.underlying35 rfl size5) rfl
   ⟨X, .slice none 0 0, fun _ => False, .slice none 0 0, HP1.out.only HO2.out (fun i hi e => by have := HLT.out i (.inl hi); omega) (fun i hi e => by have := HLT.out i (.inr hi); omega), (PlS.refl.quiet HB1.out).over HO2.out (fun i e => by omega), HM.out, OwnK.nil _ _ _ _, fun i hi => hi.elim, .inl ⟨rfl, rfl, rfl⟩, fun i _ => ⟨(fun e => by cases e), (fun e => e), (fun e => by cases e)⟩, fun i hi => by cases hi⟩
 | some s =>
  rw [mOf_some hx] at hT
  have HQ := Shut.mk (HP1.out.qs _ HK.out s hx)
  have HXS := Shut.mk hx
  have HTK := Shut.mk hT
  rw [show ptrQ (some s) = Value.pointer (some ⟨s.x.g, 0, none⟩) from rfl]
  clear hx hT
  go_wp2_with (fail)
  refine (take_any (bkQ hd.seed) (bkQ_lt hd.seed) T w1 s.x s.V s.q HQ.out.is HQ.out.inv HQ.out.few now HTM.out.1 HTM.out.2 r ds q' (by rw [HQ.out.tg, HQ.out.iv]; exact HTK.out)).mono ?_
  rintro e w2 ⟨V', late, T2, v, hQ2, hC, hO, hT2, hap, hE⟩
  have hcall := HP1.out.call HK.out HXS.out hQ2 hC (takes_keep HTK.out HQ.out.inv).1 (takes_few HTK.out HTM.out.1 HTM.out.2 HQ.out.inv HQ.out.few)
  have HPC := Shut.mk hcall.1
  have HPS := Shut.mk hcall.2
  have hE2 : TookE w1 w2 r late v e ∧ ∀ i, v.ownBlock = some i → ¬ T2 i ∧ late.ownBlock ≠ some i := by
   rcases hE with ⟨e1, e2, e3⟩ | ⟨p, e1, e2, e3, h5⟩
   ·subst e2; exact ⟨.inl ⟨e1, rfl, e3⟩, fun i hi => by cases hi⟩
   ·exact ⟨.inr ⟨p, e1, e2, e3⟩, h5⟩
  obtain ⟨p0, A0, m0, c0, b0, hv, he⟩ := hE2.1.form
  subst hv
  subst he
  have HET := Shut.mk hE2.1
  have HEV := Shut.mk hE2.2
  have HO := Shut.mk hO
  have HT2 := Shut.mk hT2
  have HAP := Shut.mk hap
  have HSL := Shut.mk (show s8 < w1.heap.size from lt_blk HX1.out)
  have HX2 := Shut.mk (HPS.out.only.at_ HX1.out (fun e => by have := HLT.out s8 (.inl e); omega))
  have HM := Shut.mk (show mOf (updF X (8 * a + t) (some ⟨s.x, V', q'⟩)) = updF (mOf X) (8 * a + t) q' from mOf_upd X (8 * a + t) ⟨s.x, V', q'⟩)
  clear hQ2 hC hO hT2 hap hE hcall hE2
  obtain ⟨pi, pf, pt, pa, pb⟩ := p0
  unfold pkV at HET ⊢
  dsimp only at HET ⊢
  have HX3 := Shut.mk (setRow_heap w2 s8 _ #[Value.int .i64 pi, .int .u32 pf, .int .i64 pt, .int .i64 pa, Value.slice A0 m0 c0] _ (0, 0) HX2.out)
  have HO3 := Shut.mk (only_setRow w2 s8 #[Value.int .i64 pi, .int .u32 pf, .int .i64 pt, .int .i64 pa, Value.slice A0 m0 c0])
  go_wp2_with (first
   | (refine wpList_store_row rfl 35 (.tmp 8) (.tmp 22) rfl s8 #[Value.int .i64 pi, .int .u32 pf, .int .i64 pt, .int .i64 pa, Value.slice A0 m0 c0] rfl rfl 35 _ HX2.out size5 rfl (pkt_one _ _ _ _ _ _ _) ?_))
  have hs := HS8.out
  have hfl : ∀ i, FootP g (updF X (8 * a + t) (some ⟨s.x, V', q'⟩)) i → i ≠ s8 := fun i hi e => by
   rcases HPS.out.fresh i hi with h1 | h1
   ·have := HLT.out i (.inl h1); omega
   ·have := HSL.out; omega
  refine bodyPost_ret (v := .tuple #[.agg #[Value.int .i64 pi, .int .u32 pf, .int .i64 pt, .int .i64 pa, Value.slice A0 m0 c0], late, .bool b0]) (results_ctt (p := 8) (q := 9) (r := 10) Tryz.results14 _ _ s8 _ _ _ _ _ _ rfl rfl rfl HX3.out Tryz.underlying35 rfl size5) rfl
   ⟨updF X (8 * a + t) (some ⟨s.x, V', q'⟩), late, T2, .slice A0 m0 c0, HPC.out.only HO3.out hfl (fun i hi e => by have := HLT.out i (.inr hi); omega), (PlS.from_ HB1.out HPS.out).over HO3.out (fun i e => by omega), HM.out, ?_, fun i hi => ?_, ?_, fun i hi => ?_, HEV.out⟩
  ·exact OwnK.only (OwnP.base HO.out (by have := HB1.out.size; omega)) HO3.out (fun i hi e => by have h1 := (OwnP.lt HO.out i hi).1; have h2 := HSL.out; omega) (fun i hi e => by have h1 := (HT2.out i hi).1; have h2 := HSL.out; omega)
  ·have h1 := HT2.out i hi
   have h2 := HB1.out.size
   exact ⟨by omega, Nat.lt_of_lt_of_le h1.2 HO3.out.size⟩
  ·rcases HET.out with ⟨e1, e2, e3⟩ | ⟨p, e1, e2, e3⟩
   ·exact .inl ⟨e1, e2, e3⟩
   ·refine .inr ⟨p, e1, e2, owns_setRow (owns_base e3 (by have := HB1.out.size; omega)) fun i hi e => ?_⟩
    have h1 := (World.ownsRow.lt e3 i hi).1
    have h2 := HSL.out
    omega
  ·rcases hi with e | ⟨j, u, hj, hu, e⟩
   ·refine ⟨fun h => ?_, fun h => ?_, fun h => ?_⟩
    ·have h1 := (OwnP.lt HO.out i h).1; have h2 := HP1.out.lt; omega
    ·have h1 := (HT2.out i h).1; have h2 := HP1.out.lt; omega
    ·rcases HET.out with ⟨e1, e2, e3⟩ | ⟨p, e1, e2, e3⟩
     ·rw [e2] at h; cases h
     ·have h1 := (World.ownsRow.lt e3 i h).1; have h2 := HP1.out.lt; omega
   ·by_cases e2 : j = 8 * a + t
    ·subst e2
     rw [updF_same] at hu
     obtain rfl := Option.some.inj hu
     exact HAP.out i e
    ·rw [updF_other _ _ e2] at hu
     have h0 := (HP1.out.qs j hj u hu).is.lts e
     refine ⟨fun h => ?_, fun h => ?_, fun h => ?_⟩
     ·have h1 := (OwnP.lt HO.out i h).1; omega
     ·have h1 := (HT2.out i h).1; omega
     ·rcases HET.out with ⟨e1, e2, e3⟩ | ⟨p, e1, e2, e3⟩
      ·rw [e2] at h; cases h
      ·have h1 := (World.ownsRow.lt e3 i h).1; omega
end Go.Proofs.YtndkmgcmegcieaaGreatDoor
