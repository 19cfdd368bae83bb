/-
  CONTRACT of fq's Clone: a queue of its own, the bodies shared.
-/
import Derived.Test.YtndkmgcmegcieaaGreatDoorFqCl
namespace Go.Proofs.YtndkmgcmegcieaaGreatDoor
open Go.ChangeShapes Go.WideShapes Go.ChangeAt Go.RowKit Go.Deep
set_option linter.unusedVariables false
set_option linter.unusedSimpArgs false
structure ClnL (T : Nat → Prop) (w : World) (x : Rq) (V : Nat → Value) (q : Qu) (g2 : Nat) (P : Nat → Prop) (wr : World) (U : Nat → Value) : Prop where
 blk : wr.heap[g2]? = some (.cells (cqC x U q.fl).toArray 98 (0, 0))
 old : ∀ k, k < 34 → ¬ P k → U k = V k
 new : ∀ k, k < 34 → P k → ∀ g, (U k).ownBlock = some g → g2 < g ∧ g < wr.heap.size
 own : ∀ i, i < 34 → ∀ j, j < 34 → P i → P j → i ≠ j → ∀ g, (U i).ownBlock = some g → (U j).ownBlock ≠ some g
 pk : ∀ b, b < 16 → P b → RowPk T wr (U b) (q.fl b).pk
 it : ∀ b, b < 16 → P (16 + b) → RowIt wr (U (16 + b)) (itemsF (q.fl b).pk)
 fr : P 32 → RowN wr (U 32) (natsI q.fresh)
 el : P 33 → RowN wr (U 33) (natsI q.elder)
 bel : Below w.heap.size w wr
 ge : w.heap.size ≤ g2
section
variable {T : Nat → Prop} {w wr w' : World} {x : Rq} {V U : Nat → Value} {q : Qu} {g2 : Nat} {P : Nat → Prop}
theorem ClnL.quiet (h : ClnL T w x V q g2 P wr U) (hT : ∀ k, T k → k < w.heap.size) (hb : Below wr.heap.size wr w') : ClnL T w x V q g2 P w' U :=
 have ho : Only (fun _ => False) wr w' := Only.of_quiet hb
 ⟨(hb.block _ (lt_blk h.blk)).trans h.blk, h.old, fun k hk hp g hg => ⟨(h.new k hk hp g hg).1, Nat.lt_of_lt_of_le (h.new k hk hp g hg).2 hb.size⟩, h.own,
  fun b hb1 hp => (h.pk b hb1 hp).only ho (fun _ _ e => e) (fun _ _ e => e), fun b hb1 hp => (h.it b hb1 hp).only ho (fun _ _ e => e), fun hp => (h.fr hp).only ho (fun _ _ e => e), fun hp => (h.el hp).only ho (fun _ _ e => e), h.bel.trans (hb.mono h.bel.size), h.ge⟩
theorem ClnL.put (h : ClnL T w x V q g2 P wr U) (hT : ∀ k, T k → k < w.heap.size) {k : Nat} (hk : k < 34) {v : Value} (hP : ¬ P k) (hv : ∀ g, v.ownBlock = some g → g2 < g ∧ g < wr.heap.size)
 (hd : ∀ j, j < 34 → P j → ∀ g, v.ownBlock = some g → (U j).ownBlock ≠ some g)
 (h1 : k < 16 → RowPk T wr v (q.fl k).pk) (h2 : ∀ b, b < 16 → k = 16 + b → RowIt wr v (itemsF (q.fl b).pk)) (h3 : k = 32 → RowN wr v (natsI q.fresh)) (h4 : k = 33 → RowN wr v (natsI q.elder)) :
 ClnL T w x V q g2 (fun j => P j ∨ j = k) (wr.setRow g2 (cqC x (updF U k v) q.fl).toArray) (updF U k v) := by
 have ho : Only (· = g2) wr (wr.setRow g2 (cqC x (updF U k v) q.fl).toArray) := only_setRow _ _ _
 have hn : ∀ g, v.ownBlock = some g → g ≠ g2 := fun g hg e => by have := (hv g hg).1; omega
 have hnU : ∀ j, j < 34 → P j → ∀ g, (U j).ownBlock = some g → g ≠ g2 := fun j hj hp g hg e => by have := (h.new j hj hp g hg).1; omega
 have hTg : ∀ i, T i → i ≠ g2 := fun i hi e => by have := hT i hi; have := h.ge; omega
 refine ⟨setRow_heap wr g2 _ _ _ (0, 0) h.blk, fun j hj hp => ?_, fun j hj hp g hg => ?_, fun i hi j hj hpi hpj hij g h5 h6 => ?_, fun b hb hp => ?_, fun b hb hp => ?_, fun hp => ?_, fun hp => ?_, h.bel.trans (ho.below (fun i hi e => by have := h.ge; omega) h.bel.size), h.ge⟩
 ·rw [updF_other _ _ (fun e => hp (.inr e))]
  exact h.old j hj fun e => hp (.inl e)
 ·by_cases e : j = k
  ·rw [e, updF_same] at hg
   have := hv g hg
   exact ⟨this.1, Nat.lt_of_lt_of_le this.2 ho.size⟩
  ·rw [updF_other _ _ e] at hg
   rcases hp with hp | hp
   ·have := h.new j hj hp g hg
    exact ⟨this.1, Nat.lt_of_lt_of_le this.2 ho.size⟩
   ·exact absurd hp e
 ·by_cases e : i = k
  ·by_cases e2 : j = k
   ·exact hij (e.trans e2.symm)
   ·rw [e, updF_same] at h5
    rw [updF_other _ _ e2] at h6
    rcases hpj with hp | hp
    ·exact hd j hj hp g h5 h6
    ·exact e2 hp
  ·rw [updF_other _ _ e] at h5
   rcases hpi with hpi | hpi
   ·by_cases e2 : j = k
    ·rw [e2, updF_same] at h6
     exact hd i hi hpi g h6 h5
    ·rw [updF_other _ _ e2] at h6
     rcases hpj with hp | hp
     ·exact h.own i hi j hj hpi hp hij g h5 h6
     ·exact e2 hp
   ·exact e hpi
 ·by_cases e : b = k
  ·rw [e, updF_same]
   exact (h1 (by omega)).only ho hn hTg
  ·rw [updF_other _ _ e]
   rcases hp with hp | hp
   ·exact (h.pk b hb hp).only ho (hnU b (by omega) hp) hTg
   ·exact absurd hp e
 ·by_cases e : 16 + b = k
  ·rw [e, updF_same]
   exact (h2 b hb e.symm).only ho hn
  ·rw [updF_other _ _ e]
   rcases hp with hp | hp
   ·exact (h.it b hb hp).only ho (hnU _ (by omega) hp)
   ·exact absurd hp e
 ·by_cases e : 32 = k
  ·rw [e, updF_same]
   exact (h3 e.symm).only ho hn
  ·rw [updF_other _ _ e]
   rcases hp with hp | hp
   ·exact (h.fr hp).only ho (hnU _ (by omega) hp)
   ·exact absurd hp e
 ·by_cases e : 33 = k
  ·rw [e, updF_same]
   exact (h4 e.symm).only ho hn
  ·rw [updF_other _ _ e]
   rcases hp with hp | hp
   ·exact (h.el hp).only ho (hnU _ (by omega) hp)
   ·exact absurd hp e
theorem ClnL.same {P' : Nat → Prop} (h : ClnL T w x V q g2 P wr U) (hp : ∀ k, k < 34 → (P' k ↔ P k)) : ClnL T w x V q g2 P' wr U :=
 ⟨h.blk, fun k hk e => h.old k hk fun e2 => e ((hp k hk).2 e2), fun k hk e => h.new k hk ((hp k hk).1 e), fun i hi j hj a b => h.own i hi j hj ((hp i hi).1 a) ((hp j hj).1 b), fun b hb e => h.pk b hb ((hp b (by omega)).1 e), fun b hb e => h.it b hb ((hp _ (by omega)).1 e), fun e => h.fr ((hp 32 (by omega)).1 e), fun e => h.el ((hp 33 (by omega)).1 e), h.bel, h.ge⟩
theorem ClnL.all (h : ClnL T w x V q g2 P wr U) (hT : ∀ k, T k → k < w.heap.size) (hp : ∀ k, k < 34 → P k) : IsCq T wr ⟨g2, x.seed, x.tg, x.iv⟩ U q :=
 {blk := h.blk
  pk := fun b hb => h.pk b hb (hp b (by omega))
  it := fun b hb => h.it b hb (hp _ (by omega))
  fr := h.fr (hp 32 (by omega))
  el := h.el (hp 33 (by omega))
  own := fun i hi j hj hij g h1 => h.own i hi j hj (hp i hi) (hp j hj) hij g h1
  apart := fun i hi g hg => ⟨fun e => by have h1 := (h.new i hi (hp i hi) g hg).1; have e2 : g = g2 := e; omega, fun e => by have h1 := (h.new i hi (hp i hi) g hg).1; have h2 := hT g e; have h3 := h.ge; omega⟩
  there := fun k hk => Nat.lt_of_lt_of_le (hT k hk) h.bel.size
  apt := fun e => by have h1 := hT g2 e; have h2 := h.ge; omega }
end
theorem size149 : (Tryz.prog.info? 98).map (·.size) = some 149 := by kernel_rfl
theorem cqC_len (x : Rq) (V : Nat → Value) (f : Nat → Fl) : (cqC x V f).length = 149 := by
 unfold cqC cqH
 rw [List.length_append, List.length_append, flat_range_len _ 9 (fun _ => rfl)]
 rfl
theorem IsCq.ones {T : Nat → Prop} {w : World} {x : Rq} {V : Nat → Value} {q : Qu} (h : IsCq T w x V q) : (cqC x V q.fl).toArray.all (·.oneCell') = true := by
 rw [List.all_toArray, List.all_eq_true]
 intro v hv
 unfold cqC cqH at hv
 simp only [List.mem_append, List.mem_flatMap, List.mem_range, List.mem_cons, List.not_mem_nil, or_false] at hv
 rcases hv with hv | ⟨b, hb, hv⟩ | hv
 ·rcases hv with rfl | rfl | rfl <;> rfl
 ·unfold fcF fcR at hv
  simp only [List.mem_cons, List.not_mem_nil, or_false] at hv
  rcases hv with rfl | rfl | rfl | rfl | rfl | rfl | rfl | rfl | rfl
  ·exact (h.pk b hb).one
  ·exact (h.it b hb).one
  all_goals rfl
 ·rcases hv with rfl | rfl
  ·exact h.fr.one
  ·exact h.el.one
set_option maxRecDepth 100000 in
set_option maxHeartbeats 8000000 in
theorem clone_q_any (T : Nat → Prop) (w : World) (x : Rq) (V : Nat → Value) (q : Qu) (h : IsCq T w x V q) (hf : FewC q) (hl : q.fresh.length ≤ 1000 ∧ q.elder.length ≤ 1000) :
 Calls Tryz.prog 27 #[.pointer (some ⟨x.g, 0, none⟩)] w fun e w' => ∃ U, e = .returned (.pointer (some ⟨w.heap.size, 0, none⟩)) ∧ IsCq T w' ⟨w.heap.size, x.seed, x.tg, x.iv⟩ U q ∧ Below w.heap.size w w' ∧ ∀ k, FootC ⟨w.heap.size, x.seed, x.tg, x.iv⟩ U k → w.heap.size ≤ k := by
 have HQ := Shut.mk h
 have HF := Shut.mk hf
 have HTT := Shut.mk h.there
 have H1 := Shut.mk h.ones
 have HNL := Shut.mk (show (natsI q.fresh).length ≤ 100000 ∧ (natsI q.elder).length ≤ 100000 by rw [natsI_len, natsI_len]; omega)
 have HSZ0 := Shut.mk (show (Tryz.prog.info? 98).map (·.size) = some (cqC x V q.fl).toArray.size by rw [List.size_toArray, cqC_len]; exact size149)
 have HL0 := Shut.mk (show ClnL T w x V q w.heap.size (fun _ => False) (w.alloc (.cells (cqC x V q.fl).toArray 98 (0, 0))) V from
  ⟨(MapKept.heap_alloc w _).1, fun _ _ _ => rfl, fun _ _ e => e.elim, fun _ _ _ _ e => e.elim, fun _ _ e => e.elim, fun _ _ e => e.elim, fun e => e.elim, fun e => e.elim, (Below.refl _ _).alloc (Nat.le_refl _) _, Nat.le_refl _⟩)
 clear h hf hl
 go_enter Tryz.func27, Tryz.ntmps27
 go_wp2_with (first
  | (refine wpList_load_row rfl 98 (.tmp 8) rfl x.g rfl 98 (cqC x V q.fl).toArray (0, 0) _ HQ.out.blk Tryz.underlying98 rfl HSZ0.out ?_)
  | (refine wpList_store_row rfl 98 (.tmp 3) (.tmp 9) rfl w.heap.size (cqC x V q.fl).toArray rfl rfl 98 _ (MapKept.heap_alloc w _).1 HSZ0.out rfl H1.out ?_
     rw [World.setRow_alloc_new]))
 obtain ⟨g2, hg2⟩ : ∃ g, g = w.heap.size := ⟨_, rfl⟩
 rw [← hg2] at HL0 ⊢
 have HGG := Shut.mk hg2
 clear hg2
 generalize World.alloc w _ = w1 at *
 go_loopw [10] (fun fi wr => ∃ (i : Nat) (U : Nat → Value), i ≤ 16 ∧ fi = .int .i64 i ∧ ClnL T w x V q g2 (fun k => k < i ∨ 16 ≤ k ∧ k < 16 + i) wr U) (fun fi _ => 16 - (intOf fi).toNat)
 case atStart => exact ⟨0, V, by omega, rfl, HL0.out.same fun k hk => ⟨fun e => by omega, fun e => e.elim⟩⟩
 case round =>
  clear HL0
  obtain ⟨i, U, hi, rfl, hL⟩ := hrel
  have HL := Shut.mk hL
  clear hL
  by_cases hlt : i < 16
  ·have hlti : (i : Int) < 16 := by omega
   have HPK := Shut.mk ((HQ.out.pk i hlt).only (S := fun _ => False) (Only.of_quiet HL.out.bel) (fun _ _ e => e) (fun _ _ e => e))
   have HIT := Shut.mk ((HQ.out.it i hlt).only (S := fun _ => False) (Only.of_quiet HL.out.bel) (fun _ _ e => e))
   have HLN := Shut.mk (show (q.fl i).pk.length ≤ 100000 by have := HF.out.len i hlt; omega)
   have HLI := Shut.mk (show (itemsF (q.fl i).pk).length ≤ 100000 by rw [itemsF_len]; have := HF.out.len i hlt; omega)
   obtain ⟨pre, post, hpl, hsp, hsu⟩ := cq_split x U q.fl hlt
   have HPL := Shut.mk hpl
   have HSP := Shut.mk hsp
   have HSU := Shut.mk hsu
   have HGS := Shut.mk (show g2 < wr.heap.size from lt_blk HL.out.blk)
   have HC1 := Shut.mk (show wr.cell? ⟨g2, 3 + i * 9, none⟩ = some (V i) by
    have h1 := mid_cell (j := 0) (by have h2 := HL.out.blk; rw [hsp] at h2; exact h2) hpl (v := U i) rfl
    rw [HL.out.old i (by omega) (by omega)] at h1
    exact h1)
   have HC2 := Shut.mk (show wr.cell? ⟨g2, 3 + i * 9 + 1, none⟩ = some (V (16 + i)) by
    have h1 := mid_cell (j := 1) (by have h2 := HL.out.blk; rw [hsp] at h2; exact h2) hpl (v := U (16 + i)) rfl
    rw [HL.out.old (16 + i) (by omega) (by omega)] at h1
    exact h1)
   clear hpl hsp hsu
   obtain ⟨w5, hw5⟩ : ∃ wD, wD = World.drew wr := ⟨_, rfl⟩
   have HWw5 := Shut.mk hw5
   have HDw5 := Shut.mk (show Below wr.heap.size wr w5 by rw [hw5]; exact (Below.refl _ _).drew)
   clear hw5
   go_wp2_with (fail)
   refine wp_region_D (fun w' => Below w5.heap.size w5 w') 14 (by kernel_rfl) (show Below w5.heap.size w5 (World.drew wr) by rw [HWw5.out]; exact Below.refl _ _) (fun hHeld hC => ?_)
   rw [← HWw5.out] at hHeld ⊢
   refine dP 0 hC hHeld ?_; clear hC; intro hC
   refine dP 1 hC hHeld ?_; clear hC; intro hC
   refine dP 2 hC hHeld ?_; clear hC; intro hC
   refine dP 3 hC hHeld ?_; clear hC; intro hC
   refine dP 4 hC hHeld ?_; clear hC; intro hC
   refine dT 5 hC hHeld (fun w hSw => (show w.cell? ⟨g2, 3 + i * 9, none⟩ = some (V i) from below_at hSw (below_at HDw5.out HC1.out))) ?_; clear hC; intro hC
   refine dP 7 hC hHeld ?_; clear hC; intro hC
   refine dP 8 hC hHeld ?_; clear hC; intro hC
   refine dP 9 hC hHeld ?_; clear hC; intro hC
   refine dT 10 hC hHeld (fun w hSw => (show w.cell? ⟨g2, 3 + i * 9 + 1, none⟩ = some (V (16 + i)) from below_at hSw (below_at HDw5.out HC2.out))) ?_; clear hC; intro hC
   refine wpAnyD_one (i := 6) (by kernel_rfl) rfl hC (fun K hK => ?_)
   clear hC
   go_simp
   refine (clonepk_any T w5 (V i) (q.fl i).pk (HPK.out.only (Only.of_quiet (HDw5.out.trans (hHeld.mono HDw5.out.size))) (fun _ _ e => e) (fun _ _ e => e)) HLN.out).mono ?_
   rintro e' wv1 ⟨v1, rfl, hr, hB, hg⟩
   have HB1 := Shut.mk hB
   have HR1 := Shut.mk hr
   have HS1 := Shut.mk (show w5.heap.size ≤ w5.heap.size from hHeld.size)
   have HG1 := Shut.mk (show ∀ g, v1.ownBlock = some g → w5.heap.size ≤ g ∧ g < wv1.heap.size from fun g hg2 => ⟨hg g hg2, hr.lt g hg2⟩)
   clear hr hg hB
   have hHeld2 := hHeld.trans (HB1.out.mono hHeld.size)
   clear hHeld
   have hHeld := hHeld2
   clear hHeld2
   refine hK.out _ _ (fun _ => hHeld) (fun hC => ?_)
   clear hK K
   try simp only [Act.put, sG1, sG2, sG3, sG4, sG5, sG6]
   refine wpAnyD_one (i := 11) (by kernel_rfl) rfl hC (fun K hK => ?_)
   clear hC
   go_simp
   refine (cloneit_any wv1 (V (16 + i)) (itemsF (q.fl i).pk) (HIT.out.only (Only.of_quiet (HDw5.out.trans (hHeld.mono HDw5.out.size))) (fun _ _ e => e)) HLI.out).mono ?_
   rintro e' wv2 ⟨v2, rfl, hr, hB, hg⟩
   have HB2 := Shut.mk hB
   have HR2 := Shut.mk hr
   have HG2 := Shut.mk (show ∀ g, v2.ownBlock = some g → wv1.heap.size ≤ g ∧ g < wv2.heap.size from fun g hg2 => ⟨hg g hg2, hr.lt g hg2⟩)
   have HR1b := Shut.mk (HR1.out.only (S := fun _ => False) (Only.of_quiet hB) (fun _ _ e => e) (fun _ _ e => e))
   have HL6 := Shut.mk (HL.out.quiet HTT.out (HDw5.out.trans ((hHeld.trans (hB.mono hHeld.size)).mono HDw5.out.size)))
   have HSZ := Shut.mk (show w5.heap.size ≤ wv1.heap.size ∧ wv1.heap.size ≤ wv2.heap.size from ⟨hHeld.size, hB.size⟩)
   have HBA := Shut.mk (show wv2.heap[g2]? = some (.cells (pre ++ fcF U q.fl i ++ post).toArray 98 (0, 0)) by rw [← HSP.out]; exact HL6.out.blk)
   clear hr hg hB
   have hHeld2 := hHeld.trans (HB2.out.mono hHeld.size)
   clear hHeld
   have hHeld := hHeld2
   clear hHeld2
   refine hK.out _ _ (fun _ => hHeld) (fun hC => ?_)
   clear hK K
   try simp only [Act.put, sG1, sG2, sG3, sG4, sG5, sG6]
   refine dP 12 hC hHeld ?_; clear hC; intro hC
   refine dP 13 hC hHeld ?_; clear hC; intro hC
   refine wpAnyD_one (i := 14) (by kernel_rfl) rfl hC (fun K hK => ?_)
   clear hC
   refine step_store_fld rfl 40 (.tmp 29) (.tmp 22) rfl g2 (3 + i * 9) 0 v1 rfl rfl HR1.out.one 98 pre (fcF U q.fl i) (fcF (updF U i v1) q.fl i) post HBA.out HPL.out size1P (by show 0 < 9; omega) (by unfold fcF; rw [updF_same, updF_other _ _ (show 16 + i ≠ i by omega)]; rfl) ?_
   rw [← HSU.out (updF U i v1) q.fl (fun k _ h1 _ => updF_other _ _ h1) (fun _ _ _ => rfl)]
   have HL7 := Shut.mk (HL6.out.put HTT.out (k := i) (v := v1) (by omega) (by omega) (fun g hg => by have h1 := HG1.out g hg; have h2 := HGS.out; have h3 := HDw5.out.size; have h4 := HSZ.out; have h5 := HS1.out; omega) (fun j hj hp g hg e => by have h1 := HG1.out g hg; have h2 := (HL.out.new j hj hp g e).2; have h3 := HDw5.out.size; have h5 := HS1.out; omega) (fun _ => HR1b.out) (fun b hb e => by omega) (fun e => by omega) (fun e => by omega))
   have HO7 := Shut.mk (only_setRow wv2 g2 (cqC x (updF U i v1) q.fl).toArray)
   have HBB := Shut.mk (show (wv2.setRow g2 (cqC x (updF U i v1) q.fl).toArray).heap[g2]? = some (.cells (pre ++ fcF (updF U i v1) q.fl i ++ post).toArray 98 (0, 0)) by rw [← HSU.out (updF U i v1) q.fl (fun k _ h1 _ => updF_other _ _ h1) (fun _ _ _ => rfl)]; exact HL7.out.blk)
   have HR2b := Shut.mk (HR2.out.only HO7.out (fun g hg e => by have h1 := HG2.out g hg; have h2 := HGS.out; have h3 := HDw5.out.size; have h4 := HSZ.out; omega))
   have HG2b := Shut.mk (show ∀ g, v2.ownBlock = some g → g2 < g ∧ g < (wv2.setRow g2 (cqC x (updF U i v1) q.fl).toArray).heap.size from fun g hg => by have h1 := HG2.out g hg; have h2 := HGS.out; have h3 := HDw5.out.size; have h4 := HSZ.out; exact ⟨by omega, Nat.lt_of_lt_of_le h1.2 HO7.out.size⟩)
   generalize hq : World.setRow wv2 g2 _ = wv3 at *
   clear hq
   refine hK.out _ _ (past (by kernel_rfl)) (fun hC => ?_)
   clear hK K
   try simp only [Act.put, sG1, sG2, sG3, sG4, sG5, sG6]
   refine dQ 15 hC ?_; clear hC; intro hC
   refine dQ 16 hC ?_; clear hC; intro hC
   refine wpAnyD_one (i := 17) (by kernel_rfl) rfl hC (fun K hK => ?_)
   clear hC
   refine step_store_fld rfl 91 (.tmp 31) (.tmp 27) rfl g2 (3 + i * 9) 1 v2 rfl rfl HR2.out.one 98 pre (fcF (updF U i v1) q.fl i) (fcF (updF (updF U i v1) (16 + i) v2) q.fl i) post HBB.out HPL.out size1I (by show 1 < 9; omega) (by unfold fcF; rw [updF_same, updF_same, updF_other _ _ (show i ≠ 16 + i by omega), updF_same]; rfl) ?_
   rw [← HSU.out (updF (updF U i v1) (16 + i) v2) q.fl (fun k _ h1 h2 => by rw [updF_other _ _ h2, updF_other _ _ h1]) (fun _ _ _ => rfl)]
   have HL8 := Shut.mk (HL7.out.put HTT.out (k := 16 + i) (v := v2) (by omega) (by omega) HG2b.out (fun j hj hp g hg e => by
    have h1 := HG2.out g hg
    have h5 := HSZ.out
    rcases hp with hp | hp
    ·rw [updF_other _ _ (show j ≠ i by omega)] at e
     have h2 := (HL.out.new j hj hp g e).2; have h3 := HDw5.out.size; omega
    ·rw [hp, updF_same] at e
     have h2 := (HG1.out g e).2
     omega) (fun e => by omega) (fun b hb e => by obtain rfl : b = i := (by omega); exact HR2b.out) (fun e => by omega) (fun e => by omega))
   generalize hq : World.setRow wv3 g2 _ = wv4 at *
   clear hq
   obtain ⟨wE, hwE⟩ : ∃ wE, wE = wv4 := ⟨_, rfl⟩
   rw [← hwE] at HL8 ⊢
   clear hwE
   refine hK.out _ _ (past (by kernel_rfl)) (fun hC => ?_)
   clear hK K
   try simp only [Act.put, sG1, sG2, sG3, sG4, sG5, sG6]
   refine wpAnyD_done (by kernel_rfl) ?_ _
   try simp only [Act.put, sG1, sG2, sG3, sG4, sG5, sG6]
   clear hHeld hC
   have HL9 := Shut.mk (HL8.out.same (P' := fun k => k < i + 1 ∨ 16 ≤ k ∧ k < 16 + (i + 1)) (fun k hk => ⟨fun e => by omega, fun e => by omega⟩))
   go_wp2_with (fail)
   go_roundw
   case rel => exact ⟨i + 1, _, by omega, by go_num, HL9.out⟩
   case measure => simp [intOf]; omega
  ·have hi' : i = 16 := by omega
   subst hi'
   have HLA := Shut.mk (HL.out.same (P' := fun k => k < 32 + 0) (fun k hk => ⟨fun e => by omega, fun e => by omega⟩))
   rw [show ((16 : Nat) : Int) = 16 from rfl]
   go_wp2_with (fail)
   go_loopw [33] (fun fj wr => ∃ (j : Nat) (U : Nat → Value), j ≤ 2 ∧ fj = .int .i64 j ∧ ClnL T w x V q g2 (fun k => k < 32 + j) wr U) (fun fj _ => 2 - (intOf fj).toNat)
   case atStart => exact ⟨0, U, by omega, rfl, HLA.out⟩
   case round =>
    clear HL HLA
    obtain ⟨j, U, hj, rfl, hL⟩ := hrel
    have HL := Shut.mk hL
    clear hL
    obtain ⟨pre, hpl, hsp, hsu⟩ := cq_lists x U q.fl
    have HPL := Shut.mk hpl
    have HSP := Shut.mk hsp
    have HSU := Shut.mk hsu
    clear hpl hsp hsu
    rcases (show j = 0 ∨ j = 1 ∨ j = 2 by omega) with rfl | rfl | rfl
    ·have hc : wr.cell? ⟨g2, 147, none⟩ = some (V 32) := by
      have h1 := mid_cell (j := 0) (by have h2 := HL.out.blk; rw [HSP.out] at h2; exact h2) HPL.out (v := U 32) rfl
      rw [HL.out.old 32 (by omega) (by omega)] at h1
      exact h1
     go_wp2_with (fail)
     refine (cloneint_any wr (V 32) (natsI q.fresh) (HQ.out.fr.only (Only.of_quiet HL.out.bel) (fun _ _ e => e)) HNL.out.1).mono ?_
     rintro e w5 ⟨v, rfl, hr, hB, hg⟩
     have HR1 := Shut.mk hr
     have HL5 := Shut.mk (HL.out.quiet HTT.out hB)
     have HG1 := Shut.mk (show ∀ g, v.ownBlock = some g → wr.heap.size ≤ g ∧ g < w5.heap.size from fun g hg2 => ⟨hg g hg2, hr.lt g hg2⟩)
     have HBA := Shut.mk (show w5.heap[g2]? = some (.cells (pre ++ [U 32, U 33] ++ []).toArray 98 (0, 0)) by rw [← HSP.out]; exact HL5.out.blk)
     have HL6 := Shut.mk (HL5.out.put HTT.out (k := 32) (v := v) (by omega) (by omega) (fun g hg => by have h1 := HG1.out g hg; have h2 := lt_blk HL.out.blk; omega) (fun i hi hp g hg e => by have h1 := HG1.out g hg; have h2 := (HL.out.new i hi hp g e).2; omega) (fun e => by omega) (fun b hb e => by omega) (fun e => by exact HR1.out) (fun e => by omega))
     have HSE := Shut.mk (show cqC x (updF U 32 v) q.fl = pre ++ [v, U 33] ++ [] by
      rw [HSU.out (updF U 32 v) (fun k hk => updF_other _ _ (by omega)), updF_same, updF_other _ _ (show 33 ≠ 32 by omega)])
     clear hr hB hg hc
     go_wp2_with (first
      | (refine wpList_store_fld rfl 88 (.tmp 43) (.tmp 41) rfl g2 147 0 v rfl rfl HR1.out.one 98 pre [U 32, U 33] [v, U 33] [] HBA.out HPL.out size1N (by show 0 < 2; omega) rfl ?_
         rw [← HSE.out]))
     have HL7 := Shut.mk (HL6.out.same (P' := fun k => k < 33) (fun k hk => ⟨fun e => by omega, fun e => by omega⟩))
     go_roundw
     case rel => exact ⟨1, _, by omega, by go_num, HL7.out⟩
     case measure => simp [intOf]
    ·have hc : wr.cell? ⟨g2, 148, none⟩ = some (V 33) := by
      have h1 := mid_cell (j := 1) (by have h2 := HL.out.blk; rw [HSP.out] at h2; exact h2) HPL.out (v := U 33) rfl
      rw [HL.out.old 33 (by omega) (by omega)] at h1
      exact h1
     go_wp2_with (fail)
     refine (cloneint_any wr (V 33) (natsI q.elder) (HQ.out.el.only (Only.of_quiet HL.out.bel) (fun _ _ e => e)) HNL.out.2).mono ?_
     rintro e w5 ⟨v, rfl, hr, hB, hg⟩
     have HR1 := Shut.mk hr
     have HL5 := Shut.mk (HL.out.quiet HTT.out hB)
     have HG1 := Shut.mk (show ∀ g, v.ownBlock = some g → wr.heap.size ≤ g ∧ g < w5.heap.size from fun g hg2 => ⟨hg g hg2, hr.lt g hg2⟩)
     have HBA := Shut.mk (show w5.heap[g2]? = some (.cells (pre ++ [U 32, U 33] ++ []).toArray 98 (0, 0)) by rw [← HSP.out]; exact HL5.out.blk)
     have HL6 := Shut.mk (HL5.out.put HTT.out (k := 33) (v := v) (by omega) (by omega) (fun g hg => by have h1 := HG1.out g hg; have h2 := lt_blk HL.out.blk; omega) (fun i hi hp g hg e => by have h1 := HG1.out g hg; have h2 := (HL.out.new i hi hp g e).2; omega) (fun e => by omega) (fun b hb e => by omega) (fun e => by omega) (fun e => by exact HR1.out))
     have HSE := Shut.mk (show cqC x (updF U 33 v) q.fl = pre ++ [U 32, v] ++ [] by
      rw [HSU.out (updF U 33 v) (fun k hk => updF_other _ _ (by omega)), updF_same, updF_other _ _ (show 32 ≠ 33 by omega)])
     clear hr hB hg hc
     go_wp2_with (first
      | (refine wpList_store_fld rfl 88 (.tmp 43) (.tmp 41) rfl g2 147 1 v rfl rfl HR1.out.one 98 pre [U 32, U 33] [U 32, v] [] HBA.out HPL.out size1N (by show 1 < 2; omega) rfl ?_
         rw [← HSE.out]))
     have HL7 := Shut.mk (HL6.out.same (P' := fun k => k < 34) (fun k hk => ⟨fun e => by omega, fun e => by omega⟩))
     go_roundw
     case rel => exact ⟨2, _, by omega, by go_num, HL7.out⟩
     case measure => simp [intOf]
    ·have hall := HL.out.all HTT.out (fun k hk => by omega)
     have HA := Shut.mk hall
     clear hall
     go_wp2_with (fail)
     go_ret
     refine ⟨U, by rw [← HGG.out]; rfl, by rw [← HGG.out]; exact HA.out, HL.out.bel, fun k hk => ?_⟩
     rcases hk with e | ⟨i, hi, e⟩
     ·have h1 : k = w.heap.size := e
      omega
     ·have h1 := (HL.out.new i hi (by omega) k e).1
      have h2 := HGG.out
      omega
end Go.Proofs.YtndkmgcmegcieaaGreatDoor
