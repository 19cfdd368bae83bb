/-
  CONTRACT of pool's shrink.
-/
import Derived.Test.YtndkmgcmegcieaaGreatDoorPoolD
namespace Go.Proofs.YtndkmgcmegcieaaGreatDoor
open Go.ChangeShapes Go.WideShapes Go.ChangeAt Go.RowKit Go.Deep
set_option linter.unusedVariables false
set_option linter.unusedSimpArgs false
theorem RowPk.wf {T : Nat → Prop} {w : World} {v : Value} {p : Pk} {r : List Pk} (h : RowPk T w v (p :: r)) : ∀ i, i < p.body.length → IntKind.u8.min ≤ p.body.getD i 0 ∧ p.body.getD i 0 ≤ IntKind.u8.max := by
 obtain ⟨l', h1, h2, h3⟩ := h
 cases l' with
 | nil => cases h2
 | cons x l =>
  simp only [List.map_cons, List.cons.injEq] at h2
  obtain ⟨rfl, -⟩ := h2
  obtain ⟨a, m, c, -, hr, -⟩ := h3 x List.mem_cons_self
  intro i hi
  exact hr.wf i (by rw [← hr.len]; exact hi)
structure ShrL (T : Nat → Prop) (w : World) (g : Nat) (h : Hd) (X : Nat → Option Qs) (n : Nat) (u : Value) (wr : World) (X1 : Nat → Option Qs) (T2 : Nat → Prop) (ds : List Pk) : Prop where
 is : IsPool T wr g h X1
 st : PlS T w g X T wr X1
 ft : ∀ i, FootP g X1 i → FootP g X i
 own : OwnP T2 wr w.heap.size u ds
 new : ∀ k, T2 k → w.heap.size ≤ k ∧ k < wr.heap.size
 tot : ds.length + (allP (mOf X1) 128).length = (allP (mOf X) 128).length
 mul : (allP (mOf X1) 128).length < n
 shr : ∀ d2 M', Shr h.mp h.mb (mOf X1) d2 M' → Shr h.mp h.mb (mOf X) (ds ++ d2) M'
set_option maxRecDepth 100000 in
set_option maxHeartbeats 8000000 in
theorem shrink_any {T : Nat → Prop} {w : World} {g : Nat} {hd : Hd} {X : Nat → Option Qs} (hp : IsPool T w g hd X) (hm : 1 ≤ hd.mp) (hb : 1 ≤ hd.mb) (hn : (allP (mOf X) 128).length ≤ 100000) :
 Calls Tryz.prog 35 #[.pointer (some ⟨g, 0, none⟩)] w fun e w' => ∃ u T2 X' ds, e = .returned u ∧ IsPool T w' g hd X' ∧ PlS T w g X T w' X' ∧ (∀ i, FootP g X' i → FootP g X i) ∧ OwnP T2 w' w.heap.size u ds ∧ (∀ k, T2 k → w.heap.size ≤ k ∧ k < w'.heap.size) ∧ Shr hd.mp hd.mb (mOf X) ds (mOf X') := by
 have HL0 := Shut.mk (show ShrL T w g hd X ((allP (mOf X) 128).length + 1) (.slice none 0 0) w X (fun _ => False) [] from ⟨hp, PlS.refl, fun _ h => h, OwnK.nil _ _ _ _, fun k hk => hk.elim, by simp, by omega, fun d2 M' h => h⟩)
 have HTT := Shut.mk hp.there
 have HLT0 := Shut.mk (fun i (hi : FootP g X i) => hp.lts hi)
 have HMP := Shut.mk hm
 have HMB := Shut.mk hb
 have HN := Shut.mk hn
 clear hp hm hb hn
 go_enter Tryz.func35, Tryz.ntmps35
 go_wp2_with (fail)
 go_loopg [3] ((allP (mOf X) 128).length + 1) (fun k u wr => ∃ (X1 : Nat → Option Qs) (T2 : Nat → Prop) (ds : List Pk), ShrL T w g hd X k u wr X1 T2 ds)
 case atStart => exact ⟨X, fun _ => False, [], HL0.out⟩
 case round =>
  clear HL0
  obtain ⟨X1, T2, ds, hL⟩ := hrel
  have HL := Shut.mk hL
  clear hL
  obtain ⟨ln, hln⟩ : ∃ n, n = (allP (mOf X1) 128).length := ⟨_, rfl⟩
  obtain ⟨by_, hby⟩ : ∃ n, n = bytesF (allP (mOf X1) 128) := ⟨_, rfl⟩
  have HLN := Shut.mk hln
  have HBY := Shut.mk hby
  clear hln hby
  obtain ⟨w5, hw5⟩ : ∃ wq, wq = World.drew wr := ⟨_, rfl⟩
  have HWw5 := Shut.mk hw5
  have HDw5 := Shut.mk (show Below wr.heap.size wr w5 by rw [hw5]; exact (Below.refl _ _).drew)
  clear hw5
  have HP5 := Shut.mk (HL.out.is.quiet HDw5.out)
  go_wp2_with (fail)
  by_cases h1 : hd.mp < (ln : Int)
  ·have HC1 := Shut.mk (show decide (hd.mp < (ln : Int)) = true from decide_eq_true h1)
   have HNZ : Shut (∃ p, p ∈ allP (mOf X1) 128) := ⟨by
    have h2 := HLN.out
    have h3 := HMP.out
    cases hc : allP (mOf X1) 128 with
    | nil => rw [hc] at h2; simp at h2; omega
    | cons p r => exact ⟨p, List.mem_cons_self⟩⟩
   have HOV1 := Shut.mk (show hd.mp < ((allP (mOf X1) 128).length : Int) ∨ hd.mb < bytesF (allP (mOf X1) 128) from .inl (by rw [← HLN.out]; exact h1))
   clear h1
   refine wp_region_D (fun w' => Below w5.heap.size w5 w') 15 (by kernel_rfl) (show Below w5.heap.size w5 (World.drew wr) by rw [HWw5.out]; exact Below.refl _ _) (fun hHeld hC => ?_)
   rw [← HWw5.out] at hHeld ⊢
   refine dP 0 hC hHeld ?_; clear hC; intro hC
   refine dP 2 hC hHeld ?_; clear hC; intro hC
   refine dP 3 hC hHeld ?_; clear hC; intro hC
   refine dP 4 hC hHeld ?_; clear hC; intro hC
   refine dT 5 hC hHeld (fun w hSw => (show w.cell? ⟨g, 3, none⟩ = some (.int .i64 hd.mp) from below_at hSw HP5.out.head.2.2.2.1)) ?_; clear hC; intro hC
   refine wpAnyD_one (i := 1) (by kernel_rfl) rfl hC (fun K hK => ?_)
   clear hC
   go_simp
   refine (len_p_any (HP5.out.quiet hHeld)).mono ?_
   rintro e' wv1 ⟨rfl, hB⟩
   rw [← HLN.out]
   have hHeld2 := hHeld.trans (hB.mono hHeld.size)
   clear hB
   clear hHeld
   have hHeld := hHeld2
   clear hHeld2
   refine hK.out _ _ (fun _ => hHeld) (fun hC => ?_)
   clear hK K
   try simp only [Act.put, sG1, sG2, sG3, sG4, sG5, sG6]
   refine wpAnyD_pure (i := 6) (v := ?_) rfl hC (by kernel_rfl) (by kernel_rfl) (by kernel_rfl) (by decide) (fun _ _ _ h => h) (Or.inl ⟨by rfl, ?_⟩) (fun _ => hHeld) ?_
   rotate_left
   ·intro w hSw
    have hf1 := HC1.out
    clear hSw
    go_simp
    try with_reducible rfl
   try simp only [Act.put, sG1, sG2, sG3, sG4, sG5, sG6]
   clear hC
   intro hC
   refine dP 7 hC hHeld ?_; clear hC; intro hC
   refine wpAnyD_pure (i := 8) (v := undef) rfl hC (by kernel_rfl) (by kernel_rfl) (by kernel_rfl) (by decide) (fun _ _ _ h => h) (Or.inr ⟨by rfl, rfl⟩) (fun _ => hHeld) ?_
   try simp only [Act.put, sG1, sG2, sG3, sG4, sG5, sG6]
   clear hC
   intro hC
   refine wpAnyD_pure (i := 9) (v := undef) rfl hC (by kernel_rfl) (by kernel_rfl) (by kernel_rfl) (by decide) (fun _ _ _ h => h) (Or.inr ⟨by rfl, rfl⟩) (fun _ => hHeld) ?_
   try simp only [Act.put, sG1, sG2, sG3, sG4, sG5, sG6]
   clear hC
   intro hC
   refine wpAnyD_pure (i := 10) (v := undef) rfl hC (by kernel_rfl) (by kernel_rfl) (by kernel_rfl) (by decide) (fun _ _ _ h => h) (Or.inr ⟨by rfl, rfl⟩) (fun _ => hHeld) ?_
   try simp only [Act.put, sG1, sG2, sG3, sG4, sG5, sG6]
   clear hC
   intro hC
   refine wpAnyD_pure (i := 11) (v := undef) rfl hC (by kernel_rfl) (by kernel_rfl) (by kernel_rfl) (by decide) (fun _ _ _ h => h) (Or.inr ⟨by rfl, rfl⟩) (fun _ => hHeld) ?_
   try simp only [Act.put, sG1, sG2, sG3, sG4, sG5, sG6]
   clear hC
   intro hC
   refine wpAnyD_pure (i := 12) (v := undef) rfl hC (by kernel_rfl) (by kernel_rfl) (by kernel_rfl) (by decide) (fun _ _ _ h => h) (Or.inr ⟨by rfl, rfl⟩) (fun _ => hHeld) ?_
   try simp only [Act.put, sG1, sG2, sG3, sG4, sG5, sG6]
   clear hC
   intro hC
   refine wpAnyD_pure (i := 13) (v := undef) rfl hC (by kernel_rfl) (by kernel_rfl) (by kernel_rfl) (by decide) (fun _ _ _ h => h) (Or.inr ⟨by rfl, rfl⟩) (fun _ => hHeld) ?_
   try simp only [Act.put, sG1, sG2, sG3, sG4, sG5, sG6]
   clear hC
   intro hC
   refine wpAnyD_pure (i := 14) (v := undef) rfl hC (by kernel_rfl) (by kernel_rfl) (by kernel_rfl) (by decide) (fun _ _ _ h => h) (Or.inr ⟨by rfl, rfl⟩) (fun _ => hHeld) ?_
   try simp only [Act.put, sG1, sG2, sG3, sG4, sG5, sG6]
   clear hC
   intro hC
   refine wpAnyD_one (i := 15) (by kernel_rfl) rfl hC (fun K hK => ?_)
   clear hC
   go_simp
   refine hK.out _ _ (past (by kernel_rfl)) (fun hC => ?_)
   clear hK K
   try simp only [Act.put, sG1, sG2, sG3, sG4, sG5, sG6]
   refine wpAnyD_done (by kernel_rfl) ?_ _
   try simp only [Act.put, sG1, sG2, sG3, sG4, sG5, sG6]
   have HBV := Shut.mk (HDw5.out.trans (hHeld.mono HDw5.out.size))
   clear hHeld hC
   obtain ⟨wf, hwf⟩ : ∃ wf, wf = wv1 := ⟨_, rfl⟩
   rw [← hwf] at HBV ⊢
   clear hwf
   have HPF := Shut.mk (HL.out.is.quiet HBV.out)
   go_wp2_with (fail)
   refine (fattest_p_any HPF.out).mono ?_
   rintro e w6 ⟨o, ho, rfl, hB6⟩
   cases o with
   | none =>
    exfalso
    obtain ⟨p, hp⟩ := HNZ.out
    exact fatG_some hp ho
   | some J =>
    obtain ⟨s, hxs⟩ : ∃ s, X1 (J / 16) = some s := by
     cases hx : X1 (J / 16) with
     | some s => exact ⟨s, rfl⟩
     | none =>
      exfalso
      have h2 : okG (mOf X1) J = true := ho.2.1
      unfold okG at h2
      rw [mOf_none hx] at h2
      cases h2
    have hJ : J < 2048 := ho.1
    have hk : J / 16 < 128 := by omega
    have HB6 := Shut.mk (HBV.out.trans (hB6.mono HBV.out.size))
    have HP6 := Shut.mk (HL.out.is.quiet HB6.out)
    have HQ6 := Shut.mk (HP6.out.qs _ hk s hxs)
    have HO := Shut.mk ho
    have HXS := Shut.mk hxs
    have HJ := Shut.mk hJ
    rw [show fatP X1 (some J) = Value.pointer (some ⟨s.x.g, 0, none⟩) by unfold fatP; dsimp only; rw [hxs]; rfl, show fatB (some J) = J % 16 from rfl]
    clear ho hxs hB6 hJ hk
    obtain ⟨b, hb⟩ : ∃ b, b = J % 16 := ⟨_, rfl⟩
    rw [← hb]
    have HBB := Shut.mk hb
    clear hb
    go_wp2_with (fail)
    refine (drophead_any T w6 s.x s.V s.q HQ6.out.is HQ6.out.few (b : Int)).mono ?_
    rintro e w7 hE
    rcases hE with ⟨h0, -, -⟩ | ⟨n, p, r, v, V', hn, hbn, hpr, rfl, hov, hQ, hC, hft⟩
    ·exfalso
     have h2 : okG (mOf X1) J = true := HO.out.2.1
     unfold okG at h2
     rw [mOf_some HXS.out, ← HBB.out] at h2
     have hb16 : b < 16 := by rw [HBB.out]; omega
     rw [hasQ_in _ hb16] at h0
     unfold okF at h2
     cases hc : (s.q.fl b).pk with
     | nil => rw [hc] at h2; cases h2
     | cons p r => rw [hc] at h0; simp at h0
    ·obtain rfl : n = b := by omega
     have hcall := HP6.out.call (by have := HJ.out; omega) HXS.out hQ hC (inv_drop HQ6.out.inv n) (few_drop HQ6.out.few hn)
     have HPC := Shut.mk hcall.1
     have HPS := Shut.mk hcall.2
     have HOV := Shut.mk hov
     have HPR := Shut.mk (show ((mOf X1 (J / 16)).fl (J % 16)).pk = p :: r by rw [mOf_some HXS.out, ← HBB.out]; exact hpr)
     have HFT := Shut.mk (show ∀ i, FootP g (updF X1 (J / 16) (some ⟨s.x, V', dropQ s.q n⟩)) i → FootP g X1 i from fun i hi => by
      rcases hi with e | ⟨j, t, hj, ht, e⟩
      ·exact .inl e
      ·by_cases e2 : j = J / 16
       ·subst e2
        rw [updF_same] at ht
        obtain rfl := Option.some.inj ht
        exact .inr ⟨_, s, hj, HXS.out, hft i e⟩
       ·rw [updF_other _ _ e2] at ht
        exact .inr ⟨j, t, hj, ht, e⟩)
     have HMM := Shut.mk (show mOf (updF X1 (J / 16) (some ⟨s.x, V', dropQ s.q n⟩)) = dropM (mOf X1) J by rw [mOf_upd]; unfold dropM; rw [mOf_some HXS.out, ← HBB.out])
     clear hcall hov hQ hC hft hpr hbn
     obtain ⟨A0, c0, hv0, -⟩ := owns_form HOV.out
     subst hv0
     have HWF := Shut.mk (show ∀ i, i < p.body.length → IntKind.u8.min ≤ p.body.getD i 0 ∧ p.body.getD i 0 ≤ IntKind.u8.max from RowPk.wf (by have h1 := HQ6.out.is.pk n hn; have h2 := HPR.out; rw [mOf_some HXS.out, ← HBB.out] at h2; rw [h2] at h1; exact h1))
     have HPB := Shut.mk (show p.body.length ≤ 1000000 from (HQ6.out.few.el n hn p (by have := HPR.out; rw [mOf_some HXS.out, ← HBB.out] at this; rw [this]; exact List.mem_cons_self)).2.2)
     obtain ⟨pi, pf, pt, pa, pb⟩ := p
     unfold pkV
     dsimp only at HOV HWF HPB ⊢
     have HB8 := Shut.mk ((Below.refl w7.heap.size w7).alloc (Nat.le_refl _) (Obj.cells #[Value.int .i64 pi, .int .u32 pf, .int .i64 pt, .int .i64 pa, Value.slice A0 pb.length c0] 35 (0, 0)))
     have HX8 := Shut.mk (MapKept.heap_alloc w7 (Obj.cells #[Value.int .i64 pi, .int .u32 pf, .int .i64 pt, .int .i64 pa, Value.slice A0 pb.length c0] 35 (0, 0))).1
     obtain ⟨w8, hw8⟩ : ∃ w8, w8 = w7.alloc (Obj.cells #[Value.int .i64 pi, .int .u32 pf, .int .i64 pt, .int .i64 pa, Value.slice A0 pb.length c0] 35 (0, 0)) := ⟨_, rfl⟩
     rw [← hw8] at HB8 HX8
     have z8 : w8.heap.size = w7.heap.size + 1 := by rw [hw8]; simp
     have HB9 := Shut.mk ((Below.refl w8.heap.size w8).alloc (Nat.le_refl _) (Obj.cells #[Value.int .i64 pi, .int .u32 pf, .int .i64 pt, .int .i64 pa, Value.slice A0 pb.length c0] 35 (0, 0)))
     have hx9 := block_range (MapKept.heap_alloc w8 (Obj.cells #[Value.int .i64 pi, .int .u32 pf, .int .i64 pt, .int .i64 pa, Value.slice A0 pb.length c0] 35 (0, 0))).1
     rw [z8] at hx9
     obtain ⟨w9, hw9⟩ : ∃ w9, w9 = w8.alloc (Obj.cells #[Value.int .i64 pi, .int .u32 pf, .int .i64 pt, .int .i64 pa, Value.slice A0 pb.length c0] 35 (0, 0)) := ⟨_, rfl⟩
     rw [← hw9] at HB9 hx9
     have HX9 := Shut.mk hx9
     have HB79 := Shut.mk (HB8.out.trans (HB9.out.mono HB8.out.size))
     have HW9 := Shut.mk (show (w7.alloc (Obj.cells #[Value.int .i64 pi, .int .u32 pf, .int .i64 pt, .int .i64 pa, Value.slice A0 pb.length c0] 35 (0, 0))).alloc (Obj.cells #[Value.int .i64 pi, .int .u32 pf, .int .i64 pt, .int .i64 pa, Value.slice A0 pb.length c0] 35 (0, 0)) = w9 by rw [← hw8, ← hw9])
     clear hx9 z8 hw8 hw9
     have HDL := Shut.mk (show ds.length ≤ 1000000 by have h1 := HL.out.tot; have h2 := HN.out; omega)
     have HNU := Shut.mk (show ∀ i, u3.ownBlock = some i → w.heap.size ≤ i ∧ i < wr.heap.size from fun i hi => OwnP.lt HL.out.own i hi)
     have HNV := Shut.mk (show ∀ i, (Value.slice A0 pb.length c0).ownBlock = some i → w6.heap.size ≤ i ∧ i < w7.heap.size from fun i hi => World.ownsRow.lt HOV.out i hi)
     have HFX := Shut.mk (show ∀ i, FootP g X1 i → i < w.heap.size from fun i hi => by
      have h1 := HL.out.ft i hi
      exact HLT0.out i h1)
     have HWS := Shut.mk (show w.heap.size ≤ wr.heap.size from HL.out.st.only.size)
     have HO67 := Shut.mk (show Only (FootP g X1) w6 w7 from HPS.out.only)
     obtain ⟨T3, hT3⟩ : ∃ T3 : Nat → Prop, T3 = fun k => T2 k ∨ (Value.slice A0 pb.length c0).ownBlock = some k := ⟨_, rfl⟩
     have HO9 := Shut.mk (show OwnP T3 w9 w.heap.size u3 ds by
      rw [hT3]
      have h1 : OwnP T2 w7 w.heap.size u3 ds := OwnK.only (OwnK.below HL.out.own HB6.out) HO67.out (fun i hi e => by have h2 := HFX.out i e; have h3 := (HNU.out i hi).1; omega) (fun i hi e => by have h2 := HFX.out i e; have h3 := (HL.out.new i hi).1; omega)
      refine OwnP.wide (OwnK.below h1 HB79.out) (fun k hk => .inl hk) fun i hi e => ?_
      rcases e with e | e
      ·obtain ⟨l', -, -, -, h5⟩ := HL.out.own
       exact h5 i hi e
      ·have h2 := (HNV.out i e).1; have h3 := (HNU.out i hi).2; have h4 := HB6.out.size; omega)
     have HE9 := Shut.mk (show ElK T3 w9 (.slice A0 pb.length c0) pb by
      rw [hT3]
      exact (OwnV.el HOV.out (by have h1 := HPB.out; unfold maxLen; omega) HWF.out fun i hi => .inr hi).below HB79.out)
     have HT9 := Shut.mk (show ∀ i, T3 i → w.heap.size ≤ i ∧ i < w9.heap.size by
      rw [hT3]
      intro i hi
      have s1 := HB6.out.size
      have s2 := HO67.out.size
      have s3 := HB79.out.size
      have s4 := HWS.out
      rcases hi with hi | hi
      ·have h1 := HL.out.new i hi; omega
      ·have h1 := HNV.out i hi; omega)
     clear hT3
     go_wp2_with (first
      | (refine wpList_load_row rfl 35 (.tmp 6) rfl w7.heap.size rfl 35 #[Value.int .i64 pi, .int .u32 pf, .int .i64 pt, .int .i64 pa, Value.slice A0 pb.length c0] (0, 0) _ (by first | exact HX8.out | (have h9 := HX8.out; exact h9)) Tryz.underlying35 rfl size5 ?_)
      | (rw [HW9.out]
         refine app_p T3 rfl (.tmp 35) (.tmp 37) rfl w.heap.size u3 ds rfl HO9.out ⟨pi, pf, pt, pa, pb⟩ (.slice A0 pb.length c0) ⟨w7.heap.size + 1, 0, none⟩ 1 rfl (fun j q hq => by rw [Addr.add_mid]; exact HX9.out j q hq) HE9.out (fun j hj => (HT9.out j hj).2) HDL.out (by have s1 := HB6.out.size; have s2 := HO67.out.size; have s3 := HB79.out.size; have s4 := HWS.out; omega) ?_
         intro ua wa HOa HBa HYa HZa))
     have HLD := Shut.mk (show (allP (mOf X1) 128).length = (allP (dropM (mOf X1) J) 128).length + 1 from by
      have := (allP_drop HJ.out HPR.out).length_eq
      rwa [List.length_cons] at this)
     go_roundg ln
     case measure => rw [HLN.out]; exact HL.out.mul
     case rel =>
      exact ⟨updF X1 (J / 16) (some ⟨s.x, V', dropQ s.q n⟩), T3, ds ++ [⟨pi, pf, pt, pa, pb⟩],
       {is := (HPC.out.quiet HB79.out).only HYa.out (fun i hi e => by have h1 := HFX.out i (HFT.out i hi); have h2 := (HNU.out i e).1; omega) (fun i hi e => by have h1 := HTT.out i hi; have h2 := (HNU.out i e).1; omega)
        st := ((HL.out.st.trans (PlS.from_ HB6.out HPS.out)).quiet HB79.out).over HYa.out fun i e => (HNU.out i e).1
        ft := fun i hi => HL.out.ft i (HFT.out i hi)
        own := HOa.out
        new := fun i hi => ⟨(HT9.out i hi).1, Nat.lt_of_lt_of_le (HT9.out i hi).2 HYa.out.size⟩
        tot := by have h1 := HL.out.tot; have h2 := HLD.out; rw [HMM.out, List.length_append]; simp only [List.length_cons, List.length_nil]; omega
        mul := by have h2 := HLD.out; rw [HMM.out, HLN.out]; omega
        shr := fun d2 M' hs => by
         rw [HMM.out] at hs
         have := HL.out.shr _ _ (Shr.step HOV1.out HO.out HPR.out hs)
         rwa [List.append_assoc] }⟩
  ·have HC1 := Shut.mk (show decide (hd.mp < (ln : Int)) = false from decide_eq_false h1)
   by_cases h2 : hd.mb < by_
   ·have HC2 := Shut.mk (show decide (hd.mb < by_) = true from decide_eq_true h2)
    have HNZ : Shut (∃ p, p ∈ allP (mOf X1) 128) := ⟨by
     have h2 := HBY.out
     have h3 := HMB.out
     cases hc : allP (mOf X1) 128 with
     | nil => rw [hc] at h2; have h4 : by_ = 0 := h2; omega
     | cons p r => exact ⟨p, List.mem_cons_self⟩⟩
    have HOV1 := Shut.mk (show hd.mp < ((allP (mOf X1) 128).length : Int) ∨ hd.mb < bytesF (allP (mOf X1) 128) from .inr (by rw [← HBY.out]; exact h2))
    clear h1 h2
    refine wp_region_D (fun w' => Below w5.heap.size w5 w') 15 (by kernel_rfl) (show Below w5.heap.size w5 (World.drew wr) by rw [HWw5.out]; exact Below.refl _ _) (fun hHeld hC => ?_)
    rw [← HWw5.out] at hHeld ⊢
    refine dP 0 hC hHeld ?_; clear hC; intro hC
    refine dP 2 hC hHeld ?_; clear hC; intro hC
    refine dP 3 hC hHeld ?_; clear hC; intro hC
    refine dP 4 hC hHeld ?_; clear hC; intro hC
    refine dT 5 hC hHeld (fun w hSw => (show w.cell? ⟨g, 3, none⟩ = some (.int .i64 hd.mp) from below_at hSw HP5.out.head.2.2.2.1)) ?_; clear hC; intro hC
    refine wpAnyD_one (i := 1) (by kernel_rfl) rfl hC (fun K hK => ?_)
    clear hC
    go_simp
    refine (len_p_any (HP5.out.quiet hHeld)).mono ?_
    rintro e' wv1 ⟨rfl, hB⟩
    rw [← HLN.out]
    have hHeld2 := hHeld.trans (hB.mono hHeld.size)
    clear hB
    clear hHeld
    have hHeld := hHeld2
    clear hHeld2
    refine hK.out _ _ (fun _ => hHeld) (fun hC => ?_)
    clear hK K
    try simp only [Act.put, sG1, sG2, sG3, sG4, sG5, sG6]
    refine wpAnyD_pure (i := 6) (v := ?_) rfl hC (by kernel_rfl) (by kernel_rfl) (by kernel_rfl) (by decide) (fun _ _ _ h => h) (Or.inl ⟨by rfl, ?_⟩) (fun _ => hHeld) ?_
    rotate_left
    ·intro w hSw
     have hf1 := HC1.out
     clear hSw
     go_simp
     try with_reducible rfl
    try simp only [Act.put, sG1, sG2, sG3, sG4, sG5, sG6]
    clear hC
    intro hC
    refine dP 7 hC hHeld ?_; clear hC; intro hC
    refine dP 8 hC hHeld ?_; clear hC; intro hC
    refine dP 10 hC hHeld ?_; clear hC; intro hC
    refine dP 11 hC hHeld ?_; clear hC; intro hC
    refine dP 12 hC hHeld ?_; clear hC; intro hC
    refine dT 13 hC hHeld (fun w hSw => (show w.cell? ⟨g, 4, none⟩ = some (.int .i64 hd.mb) from below_at hSw HP5.out.head.2.2.2.2)) ?_; clear hC; intro hC
    refine wpAnyD_one (i := 9) (by kernel_rfl) rfl hC (fun K hK => ?_)
    clear hC
    go_simp
    refine (byt_p_any (HP5.out.quiet hHeld)).mono ?_
    rintro e' wv2 ⟨rfl, hB⟩
    rw [← HBY.out]
    have hHeld2 := hHeld.trans (hB.mono hHeld.size)
    clear hB
    clear hHeld
    have hHeld := hHeld2
    clear hHeld2
    refine hK.out _ _ (fun _ => hHeld) (fun hC => ?_)
    clear hK K
    try simp only [Act.put, sG1, sG2, sG3, sG4, sG5, sG6]
    refine wpAnyD_pure (i := 14) (v := ?_) rfl hC (by kernel_rfl) (by kernel_rfl) (by kernel_rfl) (by decide) (fun _ _ _ h => h) (Or.inl ⟨by rfl, ?_⟩) (fun _ => hHeld) ?_
    rotate_left
    ·intro w hSw
     have hf2 := HC2.out
     clear hSw
     go_simp
     try with_reducible rfl
    try simp only [Act.put, sG1, sG2, sG3, sG4, sG5, sG6]
    clear hC
    intro hC
    refine wpAnyD_one (i := 15) (by kernel_rfl) rfl hC (fun K hK => ?_)
    clear hC
    go_simp
    refine hK.out _ _ (past (by kernel_rfl)) (fun hC => ?_)
    clear hK K
    try simp only [Act.put, sG1, sG2, sG3, sG4, sG5, sG6]
    refine wpAnyD_done (by kernel_rfl) ?_ _
    try simp only [Act.put, sG1, sG2, sG3, sG4, sG5, sG6]
    have HBV := Shut.mk (HDw5.out.trans (hHeld.mono HDw5.out.size))
    clear hHeld hC
    obtain ⟨wf, hwf⟩ : ∃ wf, wf = wv2 := ⟨_, rfl⟩
    rw [← hwf] at HBV ⊢
    clear hwf
    have HPF := Shut.mk (HL.out.is.quiet HBV.out)
    go_wp2_with (fail)
    refine (fattest_p_any HPF.out).mono ?_
    rintro e w6 ⟨o, ho, rfl, hB6⟩
    cases o with
    | none =>
     exfalso
     obtain ⟨p, hp⟩ := HNZ.out
     exact fatG_some hp ho
    | some J =>
     obtain ⟨s, hxs⟩ : ∃ s, X1 (J / 16) = some s := by
      cases hx : X1 (J / 16) with
      | some s => exact ⟨s, rfl⟩
      | none =>
       exfalso
       have h2 : okG (mOf X1) J = true := ho.2.1
       unfold okG at h2
       rw [mOf_none hx] at h2
       cases h2
     have hJ : J < 2048 := ho.1
     have hk : J / 16 < 128 := by omega
     have HB6 := Shut.mk (HBV.out.trans (hB6.mono HBV.out.size))
     have HP6 := Shut.mk (HL.out.is.quiet HB6.out)
     have HQ6 := Shut.mk (HP6.out.qs _ hk s hxs)
     have HO := Shut.mk ho
     have HXS := Shut.mk hxs
     have HJ := Shut.mk hJ
     rw [show fatP X1 (some J) = Value.pointer (some ⟨s.x.g, 0, none⟩) by unfold fatP; dsimp only; rw [hxs]; rfl, show fatB (some J) = J % 16 from rfl]
     clear ho hxs hB6 hJ hk
     obtain ⟨b, hb⟩ : ∃ b, b = J % 16 := ⟨_, rfl⟩
     rw [← hb]
     have HBB := Shut.mk hb
     clear hb
     go_wp2_with (fail)
     refine (drophead_any T w6 s.x s.V s.q HQ6.out.is HQ6.out.few (b : Int)).mono ?_
     rintro e w7 hE
     rcases hE with ⟨h0, -, -⟩ | ⟨n, p, r, v, V', hn, hbn, hpr, rfl, hov, hQ, hC, hft⟩
     ·exfalso
      have h2 : okG (mOf X1) J = true := HO.out.2.1
      unfold okG at h2
      rw [mOf_some HXS.out, ← HBB.out] at h2
      have hb16 : b < 16 := by rw [HBB.out]; omega
      rw [hasQ_in _ hb16] at h0
      unfold okF at h2
      cases hc : (s.q.fl b).pk with
      | nil => rw [hc] at h2; cases h2
      | cons p r => rw [hc] at h0; simp at h0
     ·obtain rfl : n = b := by omega
      have hcall := HP6.out.call (by have := HJ.out; omega) HXS.out hQ hC (inv_drop HQ6.out.inv n) (few_drop HQ6.out.few hn)
      have HPC := Shut.mk hcall.1
      have HPS := Shut.mk hcall.2
      have HOV := Shut.mk hov
      have HPR := Shut.mk (show ((mOf X1 (J / 16)).fl (J % 16)).pk = p :: r by rw [mOf_some HXS.out, ← HBB.out]; exact hpr)
      have HFT := Shut.mk (show ∀ i, FootP g (updF X1 (J / 16) (some ⟨s.x, V', dropQ s.q n⟩)) i → FootP g X1 i from fun i hi => by
       rcases hi with e | ⟨j, t, hj, ht, e⟩
       ·exact .inl e
       ·by_cases e2 : j = J / 16
        ·subst e2
         rw [updF_same] at ht
         obtain rfl := Option.some.inj ht
         exact .inr ⟨_, s, hj, HXS.out, hft i e⟩
        ·rw [updF_other _ _ e2] at ht
         exact .inr ⟨j, t, hj, ht, e⟩)
      have HMM := Shut.mk (show mOf (updF X1 (J / 16) (some ⟨s.x, V', dropQ s.q n⟩)) = dropM (mOf X1) J by rw [mOf_upd]; unfold dropM; rw [mOf_some HXS.out, ← HBB.out])
      clear hcall hov hQ hC hft hpr hbn
      obtain ⟨A0, c0, hv0, -⟩ := owns_form HOV.out
      subst hv0
      have HWF := Shut.mk (show ∀ i, i < p.body.length → IntKind.u8.min ≤ p.body.getD i 0 ∧ p.body.getD i 0 ≤ IntKind.u8.max from RowPk.wf (by have h1 := HQ6.out.is.pk n hn; have h2 := HPR.out; rw [mOf_some HXS.out, ← HBB.out] at h2; rw [h2] at h1; exact h1))
      have HPB := Shut.mk (show p.body.length ≤ 1000000 from (HQ6.out.few.el n hn p (by have := HPR.out; rw [mOf_some HXS.out, ← HBB.out] at this; rw [this]; exact List.mem_cons_self)).2.2)
      obtain ⟨pi, pf, pt, pa, pb⟩ := p
      unfold pkV
      dsimp only at HOV HWF HPB ⊢
      have HB8 := Shut.mk ((Below.refl w7.heap.size w7).alloc (Nat.le_refl _) (Obj.cells #[Value.int .i64 pi, .int .u32 pf, .int .i64 pt, .int .i64 pa, Value.slice A0 pb.length c0] 35 (0, 0)))
      have HX8 := Shut.mk (MapKept.heap_alloc w7 (Obj.cells #[Value.int .i64 pi, .int .u32 pf, .int .i64 pt, .int .i64 pa, Value.slice A0 pb.length c0] 35 (0, 0))).1
      obtain ⟨w8, hw8⟩ : ∃ w8, w8 = w7.alloc (Obj.cells #[Value.int .i64 pi, .int .u32 pf, .int .i64 pt, .int .i64 pa, Value.slice A0 pb.length c0] 35 (0, 0)) := ⟨_, rfl⟩
      rw [← hw8] at HB8 HX8
      have z8 : w8.heap.size = w7.heap.size + 1 := by rw [hw8]; simp
      have HB9 := Shut.mk ((Below.refl w8.heap.size w8).alloc (Nat.le_refl _) (Obj.cells #[Value.int .i64 pi, .int .u32 pf, .int .i64 pt, .int .i64 pa, Value.slice A0 pb.length c0] 35 (0, 0)))
      have hx9 := block_range (MapKept.heap_alloc w8 (Obj.cells #[Value.int .i64 pi, .int .u32 pf, .int .i64 pt, .int .i64 pa, Value.slice A0 pb.length c0] 35 (0, 0))).1
      rw [z8] at hx9
      obtain ⟨w9, hw9⟩ : ∃ w9, w9 = w8.alloc (Obj.cells #[Value.int .i64 pi, .int .u32 pf, .int .i64 pt, .int .i64 pa, Value.slice A0 pb.length c0] 35 (0, 0)) := ⟨_, rfl⟩
      rw [← hw9] at HB9 hx9
      have HX9 := Shut.mk hx9
      have HB79 := Shut.mk (HB8.out.trans (HB9.out.mono HB8.out.size))
      have HW9 := Shut.mk (show (w7.alloc (Obj.cells #[Value.int .i64 pi, .int .u32 pf, .int .i64 pt, .int .i64 pa, Value.slice A0 pb.length c0] 35 (0, 0))).alloc (Obj.cells #[Value.int .i64 pi, .int .u32 pf, .int .i64 pt, .int .i64 pa, Value.slice A0 pb.length c0] 35 (0, 0)) = w9 by rw [← hw8, ← hw9])
      clear hx9 z8 hw8 hw9
      have HDL := Shut.mk (show ds.length ≤ 1000000 by have h1 := HL.out.tot; have h2 := HN.out; omega)
      have HNU := Shut.mk (show ∀ i, u3.ownBlock = some i → w.heap.size ≤ i ∧ i < wr.heap.size from fun i hi => OwnP.lt HL.out.own i hi)
      have HNV := Shut.mk (show ∀ i, (Value.slice A0 pb.length c0).ownBlock = some i → w6.heap.size ≤ i ∧ i < w7.heap.size from fun i hi => World.ownsRow.lt HOV.out i hi)
      have HFX := Shut.mk (show ∀ i, FootP g X1 i → i < w.heap.size from fun i hi => by
       have h1 := HL.out.ft i hi
       exact HLT0.out i h1)
      have HWS := Shut.mk (show w.heap.size ≤ wr.heap.size from HL.out.st.only.size)
      have HO67 := Shut.mk (show Only (FootP g X1) w6 w7 from HPS.out.only)
      obtain ⟨T3, hT3⟩ : ∃ T3 : Nat → Prop, T3 = fun k => T2 k ∨ (Value.slice A0 pb.length c0).ownBlock = some k := ⟨_, rfl⟩
      have HO9 := Shut.mk (show OwnP T3 w9 w.heap.size u3 ds by
       rw [hT3]
       have h1 : OwnP T2 w7 w.heap.size u3 ds := OwnK.only (OwnK.below HL.out.own HB6.out) HO67.out (fun i hi e => by have h2 := HFX.out i e; have h3 := (HNU.out i hi).1; omega) (fun i hi e => by have h2 := HFX.out i e; have h3 := (HL.out.new i hi).1; omega)
       refine OwnP.wide (OwnK.below h1 HB79.out) (fun k hk => .inl hk) fun i hi e => ?_
       rcases e with e | e
       ·obtain ⟨l', -, -, -, h5⟩ := HL.out.own
        exact h5 i hi e
       ·have h2 := (HNV.out i e).1; have h3 := (HNU.out i hi).2; have h4 := HB6.out.size; omega)
      have HE9 := Shut.mk (show ElK T3 w9 (.slice A0 pb.length c0) pb by
       rw [hT3]
       exact (OwnV.el HOV.out (by have h1 := HPB.out; unfold maxLen; omega) HWF.out fun i hi => .inr hi).below HB79.out)
      have HT9 := Shut.mk (show ∀ i, T3 i → w.heap.size ≤ i ∧ i < w9.heap.size by
       rw [hT3]
       intro i hi
       have s1 := HB6.out.size
       have s2 := HO67.out.size
       have s3 := HB79.out.size
       have s4 := HWS.out
       rcases hi with hi | hi
       ·have h1 := HL.out.new i hi; omega
       ·have h1 := HNV.out i hi; omega)
      clear hT3
      go_wp2_with (first
       | (refine wpList_load_row rfl 35 (.tmp 6) rfl w7.heap.size rfl 35 #[Value.int .i64 pi, .int .u32 pf, .int .i64 pt, .int .i64 pa, Value.slice A0 pb.length c0] (0, 0) _ (by first | exact HX8.out | (have h9 := HX8.out; exact h9)) Tryz.underlying35 rfl size5 ?_)
       | (rw [HW9.out]
          refine app_p T3 rfl (.tmp 35) (.tmp 37) rfl w.heap.size u3 ds rfl HO9.out ⟨pi, pf, pt, pa, pb⟩ (.slice A0 pb.length c0) ⟨w7.heap.size + 1, 0, none⟩ 1 rfl (fun j q hq => by rw [Addr.add_mid]; exact HX9.out j q hq) HE9.out (fun j hj => (HT9.out j hj).2) HDL.out (by have s1 := HB6.out.size; have s2 := HO67.out.size; have s3 := HB79.out.size; have s4 := HWS.out; omega) ?_
          intro ua wa HOa HBa HYa HZa))
      have HLD := Shut.mk (show (allP (mOf X1) 128).length = (allP (dropM (mOf X1) J) 128).length + 1 from by
       have := (allP_drop HJ.out HPR.out).length_eq
       rwa [List.length_cons] at this)
      go_roundg ln
      case measure => rw [HLN.out]; exact HL.out.mul
      case rel =>
       exact ⟨updF X1 (J / 16) (some ⟨s.x, V', dropQ s.q n⟩), T3, ds ++ [⟨pi, pf, pt, pa, pb⟩],
        {is := (HPC.out.quiet HB79.out).only HYa.out (fun i hi e => by have h1 := HFX.out i (HFT.out i hi); have h2 := (HNU.out i e).1; omega) (fun i hi e => by have h1 := HTT.out i hi; have h2 := (HNU.out i e).1; omega)
         st := ((HL.out.st.trans (PlS.from_ HB6.out HPS.out)).quiet HB79.out).over HYa.out fun i e => (HNU.out i e).1
         ft := fun i hi => HL.out.ft i (HFT.out i hi)
         own := HOa.out
         new := fun i hi => ⟨(HT9.out i hi).1, Nat.lt_of_lt_of_le (HT9.out i hi).2 HYa.out.size⟩
         tot := by have h1 := HL.out.tot; have h2 := HLD.out; rw [HMM.out, List.length_append]; simp only [List.length_cons, List.length_nil]; omega
         mul := by have h2 := HLD.out; rw [HMM.out, HLN.out]; omega
         shr := fun d2 M' hs => by
          rw [HMM.out] at hs
          have := HL.out.shr _ _ (Shr.step HOV1.out HO.out HPR.out hs)
          rwa [List.append_assoc] }⟩
   ·have HC2 := Shut.mk (show decide (hd.mb < by_) = false from decide_eq_false h2)
    have HDN := Shut.mk (show Shr hd.mp hd.mb (mOf X) (ds ++ []) (mOf X1) from HL.out.shr _ _ (Shr.done (by rw [← HLN.out]; omega) (by rw [← HBY.out]; omega)))
    clear h1 h2
    refine wp_region_D (fun w' => Below w5.heap.size w5 w') 15 (by kernel_rfl) (show Below w5.heap.size w5 (World.drew wr) by rw [HWw5.out]; exact Below.refl _ _) (fun hHeld hC => ?_)
    rw [← HWw5.out] at hHeld ⊢
    refine dP 0 hC hHeld ?_; clear hC; intro hC
    refine dP 2 hC hHeld ?_; clear hC; intro hC
    refine dP 3 hC hHeld ?_; clear hC; intro hC
    refine dP 4 hC hHeld ?_; clear hC; intro hC
    refine dT 5 hC hHeld (fun w hSw => (show w.cell? ⟨g, 3, none⟩ = some (.int .i64 hd.mp) from below_at hSw HP5.out.head.2.2.2.1)) ?_; clear hC; intro hC
    refine wpAnyD_one (i := 1) (by kernel_rfl) rfl hC (fun K hK => ?_)
    clear hC
    go_simp
    refine (len_p_any (HP5.out.quiet hHeld)).mono ?_
    rintro e' wv1 ⟨rfl, hB⟩
    rw [← HLN.out]
    have hHeld2 := hHeld.trans (hB.mono hHeld.size)
    clear hB
    clear hHeld
    have hHeld := hHeld2
    clear hHeld2
    refine hK.out _ _ (fun _ => hHeld) (fun hC => ?_)
    clear hK K
    try simp only [Act.put, sG1, sG2, sG3, sG4, sG5, sG6]
    refine wpAnyD_pure (i := 6) (v := ?_) rfl hC (by kernel_rfl) (by kernel_rfl) (by kernel_rfl) (by decide) (fun _ _ _ h => h) (Or.inl ⟨by rfl, ?_⟩) (fun _ => hHeld) ?_
    rotate_left
    ·intro w hSw
     have hf1 := HC1.out
     clear hSw
     go_simp
     try with_reducible rfl
    try simp only [Act.put, sG1, sG2, sG3, sG4, sG5, sG6]
    clear hC
    intro hC
    refine dP 7 hC hHeld ?_; clear hC; intro hC
    refine dP 8 hC hHeld ?_; clear hC; intro hC
    refine dP 10 hC hHeld ?_; clear hC; intro hC
    refine dP 11 hC hHeld ?_; clear hC; intro hC
    refine dP 12 hC hHeld ?_; clear hC; intro hC
    refine dT 13 hC hHeld (fun w hSw => (show w.cell? ⟨g, 4, none⟩ = some (.int .i64 hd.mb) from below_at hSw HP5.out.head.2.2.2.2)) ?_; clear hC; intro hC
    refine wpAnyD_one (i := 9) (by kernel_rfl) rfl hC (fun K hK => ?_)
    clear hC
    go_simp
    refine (byt_p_any (HP5.out.quiet hHeld)).mono ?_
    rintro e' wv2 ⟨rfl, hB⟩
    rw [← HBY.out]
    have hHeld2 := hHeld.trans (hB.mono hHeld.size)
    clear hB
    clear hHeld
    have hHeld := hHeld2
    clear hHeld2
    refine hK.out _ _ (fun _ => hHeld) (fun hC => ?_)
    clear hK K
    try simp only [Act.put, sG1, sG2, sG3, sG4, sG5, sG6]
    refine wpAnyD_pure (i := 14) (v := ?_) rfl hC (by kernel_rfl) (by kernel_rfl) (by kernel_rfl) (by decide) (fun _ _ _ h => h) (Or.inl ⟨by rfl, ?_⟩) (fun _ => hHeld) ?_
    rotate_left
    ·intro w hSw
     have hf2 := HC2.out
     clear hSw
     go_simp
     try with_reducible rfl
    try simp only [Act.put, sG1, sG2, sG3, sG4, sG5, sG6]
    clear hC
    intro hC
    refine wpAnyD_one (i := 15) (by kernel_rfl) rfl hC (fun K hK => ?_)
    clear hC
    go_simp
    refine hK.out _ _ (past (by kernel_rfl)) (fun hC => ?_)
    clear hK K
    try simp only [Act.put, sG1, sG2, sG3, sG4, sG5, sG6]
    refine wpAnyD_done (by kernel_rfl) ?_ _
    try simp only [Act.put, sG1, sG2, sG3, sG4, sG5, sG6]
    have HBV := Shut.mk (HDw5.out.trans (hHeld.mono HDw5.out.size))
    clear hHeld hC
    obtain ⟨wf, hwf⟩ : ∃ wf, wf = wv2 := ⟨_, rfl⟩
    rw [← hwf] at HBV ⊢
    clear hwf
    go_wp2_with (fail)
    go_ret
    exact ⟨_, T2, X1, ds, rfl, HL.out.is.quiet HBV.out, HL.out.st.quiet HBV.out, HL.out.ft, OwnK.below HL.out.own HBV.out, fun k hk => ⟨(HL.out.new k hk).1, Nat.lt_of_lt_of_le (HL.out.new k hk).2 HBV.out.size⟩, by have := HDN.out; rwa [List.append_nil] at this⟩
end Go.Proofs.YtndkmgcmegcieaaGreatDoor
