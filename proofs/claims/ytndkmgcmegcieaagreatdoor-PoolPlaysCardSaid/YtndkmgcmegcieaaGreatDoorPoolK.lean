/-
  CONTRACT of pool's Clone: a pool of its own, its packets' bodies shared.
-/
import Derived.Test.YtndkmgcmegcieaaGreatDoorPoolF
import Derived.Test.YtndkmgcmegcieaaGreatDoorFqCn
namespace Go.Proofs.YtndkmgcmegcieaaGreatDoor
open Go.ChangeShapes Go.WideShapes Go.ChangeAt Go.RowKit Go.Deep
set_option linter.unusedVariables false
set_option linter.unusedSimpArgs false
theorem size133 : (Tryz.prog.info? 57).map (·.size) = some 133 := by kernel_rfl
theorem plC_ones (h : Hd) (X : Nat → Option Qs) : (plC h X).toArray.all (·.oneCell') = true := by
 rw [List.all_toArray, List.all_eq_true]
 intro v hv
 unfold plC hdC at hv
 simp only [List.mem_append, List.mem_map, List.mem_range, List.mem_cons, List.not_mem_nil, or_false] at hv
 rcases hv with hv | ⟨k, -, rfl⟩
 ·rcases hv with rfl | rfl | rfl | rfl | rfl <;> rfl
 ·exact ptrQ_one _
theorem plC_row {w : World} {g : Nat} {h : Hd} {X : Nat → Option Qs} (hb : w.heap[g]? = some (.cells (plC h X).toArray 57 (0, 0))) {i : Nat} (hi : i < 16) : w.rangeAt g (5 + i * 8) (rowQ X i) := fun t v hv => by
 have ht : t < 8 := by
  by_cases e : t < 8
  ·exact e
  ·rw [List.getElem?_eq_none (by show 8 ≤ t; omega)] at hv; cases hv
 rw [rowQ_get X i ht] at hv
 obtain rfl := Option.some.inj hv
 have e := (block_range hb) (5 + (8 * i + t)) _ (plC_get h X (k := 8 * i + t) (by omega))
 rw [show 5 + i * 8 + t = 5 + (8 * i + t) by omega]
 simpa using e
theorem QOk.only {T S : Nat → Prop} {w w' : World} {h : Hd} {s : Qs} (q : QOk T w h s) (ho : Only S w w') (hf : ∀ k, FootC s.x s.V k → ¬ S k) (ht : ∀ k, T k → ¬ S k) : QOk T w' h s :=
 ⟨q.is.only ho hf ht, q.sd, q.tg, q.iv, q.inv, q.few⟩
structure ClnP (T : Nat → Prop) (w : World) (h : Hd) (X : Nat → Option Qs) (gc n : Nat) (wr : World) (Y : Nat → Option Qs) : Prop where
 at0 : gc = w.heap.size
 bd : ∀ k, T k → k < w.heap.size
 blk : wr.heap[gc]? = some (.cells (plC h Y).toArray 57 (0, 0))
 rest : ∀ k, n ≤ k → Y k = X k
 nil : ∀ k, k < n → X k = none → Y k = none
 did : ∀ k, k < n → ∀ s, X k = some s → ∃ s', Y k = some s' ∧ QOk T wr h s' ∧ s'.q = s.q ∧ ∀ i, FootC s'.x s'.V i → gc < i
 apart : ∀ k, k < n → ∀ j, j < n → k ≠ j → ∀ s t, Y k = some s → Y j = some t → ∀ i, FootC s.x s.V i → ¬ FootC t.x t.V i
 bel : Below w.heap.size w wr
section
variable {T : Nat → Prop} {w wr wN : World} {h : Hd} {X Y : Nat → Option Qs} {gc n : Nat}
theorem ClnP.skip (p : ClnP T w h X gc n wr Y) (hx : X n = none) : ClnP T w h X gc (n + 1) wr Y where
 at0 := p.at0
 bd := p.bd
 blk := p.blk
 rest := fun k hk => p.rest k (by omega)
 nil := fun k hk e => by
  by_cases e2 : k = n
  ·rw [p.rest k (by omega)]; exact e
  ·exact p.nil k (by omega) e
 did := fun k hk s hs => by
  by_cases e2 : k = n
  ·rw [e2, hx] at hs; cases hs
  ·exact p.did k (by omega) s hs
 apart := fun k hk j hj hkj s t hs ht => by
  by_cases e2 : k = n
  ·rw [e2, p.rest n (Nat.le_refl _), hx] at hs; cases hs
  ·by_cases e3 : j = n
   ·rw [e3, p.rest n (Nat.le_refl _), hx] at ht; cases ht
   ·exact p.apart k (by omega) j (by omega) hkj s t hs ht
 bel := p.bel
theorem ClnP.old (p : ClnP T w h X gc n wr Y) {k : Nat} (hk : k < n) {s : Qs} (hs : Y k = some s) : QOk T wr h s ∧ ∀ i, FootC s.x s.V i → gc < i := by
 cases hx : X k with
 | none => rw [p.nil k hk hx] at hs; cases hs
 | some s0 =>
  obtain ⟨s', h1, h2, -, h4⟩ := p.did k hk s0 hx
  rw [h1] at hs
  obtain rfl := Option.some.inj hs
  exact ⟨h2, h4⟩
theorem ClnP.step (p : ClnP T w h X gc n wr Y) (hn : n < 128) {s : Qs} (hx : X n = some s) (hB : Below wr.heap.size wr wN) {x' : Rq} {U : Nat → Value} (hQ : QOk T wN h ⟨x', U, s.q⟩) (hfr : ∀ i, FootC x' U i → wr.heap.size ≤ i) :
 ClnP T w h X gc (n + 1) (wN.setRow gc (plC h (updF Y n (some ⟨x', U, s.q⟩))).toArray) (updF Y n (some ⟨x', U, s.q⟩)) := by
 have hlt : gc < wr.heap.size := lt_blk p.blk
 have hO := only_setRow wN gc (plC h (updF Y n (some ⟨x', U, s.q⟩))).toArray
 have htg : ∀ k, T k → ¬ k = gc := fun k hk e => by have h1 := p.bd k hk; have h2 := p.at0; omega
 refine ⟨p.at0, p.bd, setRow_heap wN gc _ _ _ (0, 0) ((hB.block _ hlt).trans p.blk), fun k hk => ?_, fun k hk e => ?_, fun k hk t ht => ?_, fun k hk j hj hkj a b ha hb m hm hm2 => ?_, ?_⟩
 ·rw [updF_other _ _ (by omega)]; exact p.rest k (by omega)
 ·by_cases e2 : k = n
  ·rw [e2, hx] at e; cases e
  ·rw [updF_other _ _ e2]; exact p.nil k (by omega) e
 ·by_cases e2 : k = n
  ·subst e2
   rw [hx] at ht
   obtain rfl := Option.some.inj ht
   exact ⟨_, updF_same _ _ _, hQ.only hO (fun i hi e => by have h1 := hfr i hi; omega) htg, rfl, fun i hi => by have h1 := hfr i hi; omega⟩
  ·obtain ⟨s', h1, h2, h3, h4⟩ := p.did k (by omega) t ht
   refine ⟨s', by rw [updF_other _ _ e2]; exact h1, ?_, h3, h4⟩
   exact (h2.only (S := fun _ => False) (Only.of_quiet hB) (fun _ _ e => e) (fun _ _ e => e)).only hO (fun i hi e => by have h5 := h4 i hi; omega) htg
 ·by_cases e : k = n
  ·subst e
   rw [updF_same] at ha
   obtain rfl := Option.some.inj ha
   rw [updF_other _ _ (fun e => hkj e.symm)] at hb
   have h1 := hfr m hm
   have h2 := (p.old (k := j) (by omega) hb).1.is.lts hm2
   omega
  ·rw [updF_other _ _ e] at ha
   by_cases e2 : j = n
   ·subst e2
    rw [updF_same] at hb
    obtain rfl := Option.some.inj hb
    have h1 := hfr m hm2
    have h2 := (p.old (k := k) (by omega) ha).1.is.lts hm
    omega
   ·rw [updF_other _ _ e2] at hb
    exact p.apart k (by omega) j (by omega) hkj a b ha hb m hm hm2
 ·exact (p.bel.trans (hB.mono p.bel.size)).trans (hO.below (fun i hi e => by have h2 := p.at0; omega) (Nat.le_trans p.bel.size hB.size))
theorem ClnP.pool (p : ClnP T w h X gc 128 wr Y) : IsPool T wr gc h Y ∧ (∀ k, k < 128 → mOf Y k = mOf X k) ∧ ∀ i, FootP gc Y i → w.heap.size ≤ i := by
 refine ⟨⟨p.blk, fun k hk s hs => (p.old hk hs).1, p.apart, fun k hk s hs e => by have := (p.old hk hs).2 gc e; omega, fun e => by have h1 := p.bd gc e; have h2 := p.at0; omega, fun k hk => Nat.lt_of_lt_of_le (p.bd k hk) p.bel.size⟩, fun k hk => ?_, fun i hi => ?_⟩
 ·cases hx : X k with
  | none => rw [mOf_none hx, mOf_none (p.nil k hk hx)]
  | some s =>
   obtain ⟨s', h1, -, h3, -⟩ := p.did k hk s hx
   rw [mOf_some hx, mOf_some h1, h3]
 ·have h2 := p.at0
  rcases hi with e | ⟨k, s, hk, hs, e⟩
  ·omega
  ·have := (p.old hk hs).2 i e; omega
end
set_option maxRecDepth 100000 in
set_option maxHeartbeats 16000000 in
theorem clone_p_any {T : Nat → Prop} {w : World} {g : Nat} {hd : Hd} {X : Nat → Option Qs} (hp : IsPool T w g hd X) :
 Calls Tryz.prog 8 #[.pointer (some ⟨g, 0, none⟩)] w fun e w' => ∃ Y, e = .returned (.pointer (some ⟨w.heap.size, 0, none⟩)) ∧ IsPool T w' w.heap.size hd Y ∧ (∀ k, k < 128 → mOf Y k = mOf X k) ∧ (∀ i, FootP w.heap.size Y i → w.heap.size ≤ i) ∧ Below w.heap.size w w' := by
 have HP := Shut.mk hp
 have H1 := Shut.mk (plC_ones hd X)
 have HSZ0 := Shut.mk (show (Tryz.prog.info? 57).map (·.size) = some (plC hd X).toArray.size by rw [List.size_toArray, plC_len]; exact size133)
 have HL0 := Shut.mk (show ClnP T w hd X w.heap.size 0 (w.alloc (.cells (plC hd X).toArray 57 (0, 0))) X from
  ⟨rfl, hp.there, (MapKept.heap_alloc w _).1, fun _ _ => rfl, fun k hk => absurd hk (Nat.not_lt_zero _), fun k hk => absurd hk (Nat.not_lt_zero _), fun k hk => absurd hk (Nat.not_lt_zero _), (Below.refl _ _).alloc (Nat.le_refl _) _⟩)
 clear hp
 go_enter Tryz.func8, Tryz.ntmps8
 go_wp2_with (first
  | (refine wpList_load_row rfl 57 (.tmp 8) rfl g rfl 57 (plC hd X).toArray (0, 0) _ HP.out.blk Tryz.underlying57 rfl HSZ0.out ?_)
  | (refine wpList_store_row rfl 57 (.tmp 3) (.tmp 9) rfl w.heap.size (plC hd X).toArray rfl rfl 57 _ (MapKept.heap_alloc w _).1 HSZ0.out rfl H1.out ?_
     rw [World.setRow_alloc_new]))
 obtain ⟨gc, hgc⟩ : ∃ g, g = w.heap.size := ⟨_, rfl⟩
 rw [← hgc] at HL0 ⊢
 clear hgc
 generalize World.alloc w _ = w1 at *
 go_loopw [10] (fun fi wr => ∃ (k : Nat) (Y : Nat → Option Qs), k ≤ 16 ∧ fi = .int .i64 k ∧ ClnP T w hd X gc (8 * k) wr Y) (fun fi _ => 16 - (intOf fi).toNat)
 case atStart => exact ⟨0, X, by omega, rfl, HL0.out⟩
 case round =>
  clear HL0
  obtain ⟨k, Y, hk, rfl, hL⟩ := hrel
  have HL := Shut.mk hL
  clear hL
  by_cases hlt : k < 16
  ·have hlti : (k : Int) < 16 := by omega
   have HA16 := Shut.mk hlti
   have HROW := Shut.mk (show wr.rangeAt gc (5 + k * 8) [ptrQ (X (8 * k)), ptrQ (X (8 * k + 1)), ptrQ (X (8 * k + 2)), ptrQ (X (8 * k + 3)), ptrQ (X (8 * k + 4)), ptrQ (X (8 * k + 5)), ptrQ (X (8 * k + 6)), ptrQ (X (8 * k + 7))] from by
    have h1 := plC_row HL.out.blk hlt
    unfold rowQ at h1
    rw [HL.out.rest _ (Nat.le_refl _), HL.out.rest (8 * k + 1) (by omega), HL.out.rest (8 * k + 2) (by omega), HL.out.rest (8 * k + 3) (by omega), HL.out.rest (8 * k + 4) (by omega), HL.out.rest (8 * k + 5) (by omega), HL.out.rest (8 * k + 6) (by omega), HL.out.rest (8 * k + 7) (by omega)] at h1
    exact h1)
   go_wp2_with (first
    | (refine wpList_load_mid rfl 54 (.tmp 15) rfl gc (5 + k * 8) rfl [ptrQ (X (8 * k)), ptrQ (X (8 * k + 1)), ptrQ (X (8 * k + 2)), ptrQ (X (8 * k + 3)), ptrQ (X (8 * k + 4)), ptrQ (X (8 * k + 5)), ptrQ (X (8 * k + 6)), ptrQ (X (8 * k + 7))] _ HROW.out Tryz.underlying54 rfl size8Q ?_))
   clear HROW
   go_loopw [17] (fun fj wr => ∃ (t : Nat) (Y : Nat → Option Qs), t ≤ 8 ∧ fj = .int .i64 t ∧ ClnP T w hd X gc (8 * k + t) wr Y) (fun fj _ => 8 - (intOf fj).toNat)
   case atStart => exact ⟨0, Y, by omega, rfl, HL.out⟩
   case round =>
    clear HL Y
    obtain ⟨t, Y, ht, rfl, hL⟩ := hrel
    have HL := Shut.mk hL
    clear hL
    by_cases htl : t < 8
    ·have htli : (t : Int) < 8 := by omega
     have HT8 := Shut.mk htli
     have HK := Shut.mk (show 8 * k + t < 128 by omega)
     cases hx : X (8 * k + t) with
     | none =>
      have HN := Shut.mk (HL.out.skip hx)
      have hidx := idxQ X k htl wr
      rw [hx, show ptrQ none = Value.pointer none from rfl] at hidx
      clear hx
      go_wp2_with (fail)
      go_roundw
      case rel => exact ⟨t + 1, Y, by omega, by go_num, HN.out⟩
      case measure => simp [intOf]; omega
     | some s =>
      have HXS := Shut.mk hx
      have hidx := idxQ X k htl wr
      rw [hx, show ptrQ (some s) = Value.pointer (some ⟨s.x.g, 0, none⟩) from rfl] at hidx
      have HQ := Shut.mk ((HP.out.quiet HL.out.bel).qs _ HK.out s hx)
      have HLL := Shut.mk (show s.q.fresh.length + s.q.elder.length ≤ 16 by have := lists_len HQ.out.inv; rwa [List.length_append] at this)
      clear hx
      obtain ⟨pre, post, hpl, hsp, hsu⟩ := plC_split hd Y HK.out
      have HPL := Shut.mk (show pre.length = 5 + k * 8 + t by rw [hpl]; omega)
      have HSP := Shut.mk hsp
      have HSU := Shut.mk (show ∀ s : Qs, plC hd (updF Y (8 * k + t) (some s)) = pre ++ [Value.pointer (some ⟨s.x.g, 0, none⟩)] ++ post from fun s => hsu (some s))
      clear hpl hsp hsu
      obtain ⟨w5, hw5⟩ : ∃ wq, wq = World.drew wr := ⟨_, rfl⟩
      have HWw5 := Shut.mk hw5
      have HDw5 := Shut.mk (show Below wr.heap.size wr w5 by rw [hw5]; exact (Below.refl _ _).drew)
      clear hw5
      have HP5 := Shut.mk ((HP.out.quiet HL.out.bel).quiet HDw5.out)
      go_wp2_with (fail)
      refine wp_region_D (fun w' => Below w5.heap.size w5 w') 7 (by kernel_rfl) (show Below w5.heap.size w5 (World.drew wr) by rw [HWw5.out]; exact Below.refl _ _) (fun hHeld hC => ?_)
      rw [← HWw5.out] at hHeld ⊢
      refine dP 0 hC hHeld ?_; clear hC; intro hC
      refine dP 1 hC hHeld ?_; clear hC; intro hC
      refine dP 2 hC hHeld ?_; clear hC; intro hC
      refine dP 4 hC hHeld ?_; clear hC; intro hC
      refine wpAnyD_pure (i := 5) (v := ?_) rfl hC (by kernel_rfl) (by kernel_rfl) (by kernel_rfl) (by decide) (fun _ _ _ h => h) (Or.inl ⟨by rfl, ?_⟩) (fun _ => hHeld) ?_
      rotate_left
      ·intro w hSw
       have h16 := HA16.out
       clear hSw
       go_simp
       try with_reducible rfl
      try simp only [Act.put, sG1, sG2, sG3, sG4, sG5, sG6]
      clear hC
      intro hC
      refine wpAnyD_one (i := 3) (by kernel_rfl) rfl hC (fun K hK => ?_)
      clear hC
      go_simp
      refine (clone_q_any T w5 s.x s.V s.q ((HP5.out.quiet hHeld).qs _ HK.out s HXS.out).is HQ.out.few ⟨by have := HLL.out; omega, by have := HLL.out; omega⟩).mono ?_
      rintro e' wv1 ⟨U, rfl, hQ, hB, hfr⟩
      obtain ⟨xg, hxg⟩ : ∃ s, s = w5.heap.size := ⟨_, rfl⟩
      rw [← hxg] at hQ hfr
      have HXG := Shut.mk (show wr.heap.size ≤ xg by rw [hxg]; exact Nat.le_trans HDw5.out.size hHeld.size)
      have HBN := Shut.mk (HDw5.out.trans ((hHeld.trans (hB.mono hHeld.size)).mono HDw5.out.size))
      have HBK := Shut.mk (show wv1.heap[gc]? = some (.cells (pre ++ [ptrQ (Y (8 * k + t))] ++ post).toArray 57 (0, 0)) by rw [← HSP.out]; exact (HBN.out.block _ (lt_blk HL.out.blk)).trans HL.out.blk)
      have hst := HL.out.step HK.out HXS.out HBN.out (x' := ⟨xg, s.x.seed, s.x.tg, s.x.iv⟩) (U := U) ⟨hQ, HQ.out.sd, HQ.out.tg, HQ.out.iv, HQ.out.inv, HQ.out.few⟩ (fun i hi => Nat.le_trans HXG.out (hfr i hi))
      obtain ⟨w8, hw8⟩ : ∃ w8, w8 = wv1.setRow gc (plC hd (updF Y (8 * k + t) (some ⟨⟨xg, s.x.seed, s.x.tg, s.x.iv⟩, U, s.q⟩))).toArray := ⟨_, rfl⟩
      rw [← hw8] at hst
      have HW8 := Shut.mk (show wv1.setRow gc (pre ++ [Value.pointer (some ⟨xg, 0, none⟩)] ++ post).toArray = w8 by rw [hw8, HSU.out ⟨⟨xg, s.x.seed, s.x.tg, s.x.iv⟩, U, s.q⟩])
      have HST := Shut.mk hst
      clear hst hw8
      rw [← hxg]
      clear hQ hxg hfr
      have hHeld2 := hHeld.trans (hB.mono hHeld.size)
      clear hB
      clear hHeld
      have hHeld := hHeld2
      clear hHeld2
      refine hK.out _ _ (fun _ => hHeld) (fun hC => ?_)
      clear hK K
      try simp only [Act.put, sG1, sG2, sG3, sG4, sG5, sG6]
      refine wpAnyD_pure (i := 6) (v := ?_) rfl hC (by kernel_rfl) (by kernel_rfl) (by kernel_rfl) (by decide) (fun _ _ _ h => h) (Or.inl ⟨by rfl, ?_⟩) (fun _ => hHeld) ?_
      rotate_left
      ·intro w hSw
       have h8 := HT8.out
       clear hSw
       go_simp
       try with_reducible rfl
      try simp only [Act.put, sG1, sG2, sG3, sG4, sG5, sG6]
      clear hC
      intro hC
      refine wpAnyD_one (i := 7) (by kernel_rfl) rfl hC (fun K hK => ?_)
      clear hC
      refine step_store_fld rfl 53 (.tmp 29) (.tmp 26) rfl gc (5 + k * 8 + t) 0 (.pointer (some ⟨xg, 0, none⟩)) rfl rfl rfl 57 pre [ptrQ (Y (8 * k + t))] [.pointer (some ⟨xg, 0, none⟩)] post HBK.out HPL.out size1Q (by show 0 < 1; omega) rfl ?_
      rw [show World.setRow wv1 gc _ = w8 from HW8.out]
      refine hK.out _ _ (past (by kernel_rfl)) (fun hC => ?_)
      clear hK K
      try simp only [Act.put, sG1, sG2, sG3, sG4, sG5, sG6]
      refine wpAnyD_done (by kernel_rfl) ?_ _
      try simp only [Act.put, sG1, sG2, sG3, sG4, sG5, sG6]
      have HN := HST
      clear hC HST HW8
      go_wp2_with (fail)
      go_roundw
      case rel => exact ⟨t + 1, _, by omega, by go_num, HN.out⟩
      case measure => simp [intOf]; omega
    ·obtain rfl : t = 8 := by omega
     have HN := Shut.mk (show ClnP T w hd X gc (8 * (k + 1)) wr Y from HL.out)
     go_wp2_with (fail)
     go_roundw
     case rel => exact ⟨k + 1, Y, by omega, by go_num, HN.out⟩
     case measure => simp [intOf]; omega
  ·obtain rfl : k = 16 := by omega
   have hpl := HL.out.pool
   have HPP := Shut.mk hpl
   have HBB := Shut.mk HL.out.bel
   clear hpl
   go_wp2_with (fail)
   go_ret
   have e := HL.out.at0
   exact ⟨Y, by rw [← e]; rfl, by rw [← e]; exact HPP.out.1, HPP.out.2.1, fun i hi => HPP.out.2.2 i (by rw [e]; exact hi), HBB.out⟩
end Go.Proofs.YtndkmgcmegcieaaGreatDoor
