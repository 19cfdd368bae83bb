/-
  THE REFERENCE's POOL: a queue made anew in its place; NewPool.
-/
import Derived.Test.YtndkmgcmegcieaaGreatDoorRpB
import Derived.Test.YtndkmgcmegcieaaGreatDoorPoolF
namespace Go.Proofs.YtndkmgcmegcieaaGreatDoor
open Go.ChangeShapes Go.WideShapes Go.ChangeAt Go.RowKit Go.Deep
set_option linter.unusedVariables false
set_option linter.unusedSimpArgs false
theorem size1Rq : (Tryz.prog.info? 62).map (·.size) = some 1 := by kernel_rfl
theorem rpC_split (h : Hd) (X : Nat → Option Qs) {k : Nat} (hk : k < 136) : ∃ pre post, pre.length = 5 + k ∧ rpC h X = pre ++ [ptrQ (X k)] ++ post ∧ ∀ o, rpC h (updF X k o) = pre ++ [ptrQ o] ++ post := by
 obtain ⟨pre, post, h1, h2, h3⟩ := list_at (rpC_get h X hk)
 exact ⟨pre, post, h1, h2, fun o => by rw [← rpC_set h X hk o]; exact h3 _⟩
theorem footR0 {x : Rq} {i : Nat} (h : FootR x V00 i) : i = x.g := by
 rcases h with h | ⟨j, -, h⟩
 ·exact h
 ·cases h
theorem IsRq.fresh {T : Nat → Prop} {w : World} {x : Rq} (h : IsRq (fun _ => False) w x V00 qu00) (ht : ∀ k, T k → k < w.heap.size) (hg : ¬ T x.g) : IsRq T w x V00 quZ :=
 ⟨h.blk, fun b _ => OwnK.nil _ _ _ _, OwnN.nil _ _, OwnN.nil _ _, fun i _ j _ _ k hk => (by cases hk), fun i _ k hk => (by cases hk), ht, hg⟩
theorem IsRpl.made {T : Nat → Prop} {w : World} {g : Nat} {h : Hd} {X : Nat → Option Qs} (hp : IsRpl T w g h X) {k : Nat} (hk : k < 136) {w0 : World} (hB : Below w0.heap.size w0 w) (hp0 : IsRpl T w0 g h X) {xg : Nat} (hxg : w0.heap.size ≤ xg)
 (hQ : IsRq (fun _ => False) w ⟨xg, uv h.seed, h.tg, h.iv⟩ V00 qu00) :
 IsRpl T (w.setRow g (rpC h (updF X k (some ⟨⟨xg, uv h.seed, h.tg, h.iv⟩, V00, quZ⟩))).toArray) g h (updF X k (some ⟨⟨xg, uv h.seed, h.tg, h.iv⟩, V00, quZ⟩)) ∧
 RlS T w0 g X T (w.setRow g (rpC h (updF X k (some ⟨⟨xg, uv h.seed, h.tg, h.iv⟩, V00, quZ⟩))).toArray) (updF X k (some ⟨⟨xg, uv h.seed, h.tg, h.iv⟩, V00, quZ⟩)) := by
 have hgx : xg ≠ g := by have := hp0.lt; omega
 have htx : ¬ T xg := fun e => by have := hp0.there xg e; omega
 have hQT : IsRq T w ⟨xg, uv h.seed, h.tg, h.iv⟩ V00 quZ := hQ.fresh hp.there htx
 constructor
 ·refine hp.turn hk fun s hs => ?_
  obtain rfl := Option.some.inj hs
  refine ⟨⟨hQT.only (only_setRow w g _) (fun i hi e => hgx (by have h9 : i = xg := footR0 hi; rw [← h9]; exact e)) (fun i hi e => hp.gt (e ▸ hi)), rfl, rfl, rfl, inv_Z _, few_quZ⟩, fun e => hgx (footR0 e).symm, fun j hj t ht i hi hi2 => ?_⟩
  have h1 := footR0 hi
  have h2 := (hp0.qs j hj t ht).is.lts hi2
  have h3 : i = xg := h1
  omega
 ·refine ⟨(Only.of_quiet hB).trans (only_setRow w g _) fun i _ e => .inl e, fun i hi => ?_, fun i hi => .inl hi, fun i hi => hi⟩
  rcases hi with e | ⟨j, s, hj, hs, e⟩
  ·exact .inl (.inl e)
  ·by_cases e2 : j = k
   ·subst e2
    rw [updF_same] at hs
    obtain rfl := Option.some.inj hs
    have h3 : i = xg := footR0 e
    exact .inr (by omega)
   ·rw [updF_other _ _ e2] at hs
    exact .inl (.inr ⟨j, s, hj, hs, e⟩)
structure RNew (w0 : World) (g : Nat) (h : Hd) (n : Nat) (w : World) (X : Nat → Option Qs) : Prop where
 is : IsRpl (fun _ => False) w g h X
 did : ∀ k, k < n → ∃ s, X k = some s ∧ s.q = quZ
 out : ∀ k, 136 ≤ k → X k = none
 new : ∀ i, FootL g X i → w0.heap.size ≤ i
 bel : Below w0.heap.size w0 w
theorem RNew.step {w0 w w' : World} {g : Nat} {h : Hd} {n : Nat} {X : Nat → Option Qs} {x : Rq} (p : RNew w0 g h n w X) (hn : n < 136) (hP : IsRpl (fun _ => False) w' g h (updF X n (some ⟨x, V00, quZ⟩)))
 (hS : RlS (fun _ => False) w g X (fun _ => False) w' (updF X n (some ⟨x, V00, quZ⟩))) : RNew w0 g h (n + 1) w' (updF X n (some ⟨x, V00, quZ⟩)) where
 is := hP
 did := fun k hk => by
  by_cases e : k = n
  ·subst e; exact ⟨_, updF_same _ _ _, rfl⟩
  ·rw [updF_other _ _ e]; exact p.did k (by omega)
 out := fun k hk => by rw [updF_other _ _ (by omega)]; exact p.out k hk
 new := fun i hi => by
  rcases hS.fresh i hi with h1 | h1
  ·exact p.new i h1
  ·exact Nat.le_trans p.bel.size h1
 bel := p.bel.trans (hS.only.below (fun i hi e => by have := p.new i e; omega) p.bel.size)
theorem RNew.full {w0 w : World} {g : Nat} {h : Hd} {X : Nat → Option Qs} (p : RNew w0 g h 136 w X) : FullR X ∧ mR X = fun _ => quZ := by
 refine ⟨fun k hk => ?_, ?_⟩
 ·obtain ⟨s, h1, -⟩ := p.did k hk
  exact ⟨s, h1⟩
 ·funext k
  unfold mR
  by_cases hk : 8 + k < 136
  ·obtain ⟨s, h1, h2⟩ := p.did (8 + k) hk
   rw [mOf_some h1, h2]
  ·exact mOf_none (p.out _ (by omega))
def RX0 : Nat → Option Qs := fun _ => none
set_option maxRecDepth 100000 in
set_option maxHeartbeats 16000000 in
theorem newpool_any (hd : Hd) (w : World) :
 Calls Tryz.prog 7 #[.int .u32 (uv hd.seed), .int .i64 hd.tg, .int .i64 hd.iv, .int .i64 hd.mp, .int .i64 hd.mb] w fun e w' => e = .returned (.pointer (some ⟨w.heap.size, 0, none⟩)) ∧ ∃ X, RNew w w.heap.size hd 136 w' X := by
 have HB := Shut.mk ((Below.refl w.heap.size w).alloc (Nat.le_refl _) (.cells (rpC hd RX0).toArray 66 (0, 0)))
 have HX := (MapKept.heap_alloc w (.cells (rpC hd RX0).toArray 66 (0, 0))).1
 obtain ⟨g, hg⟩ : ∃ g, g = w.heap.size := ⟨_, rfl⟩
 have HR0 := Shut.mk (show RNew w g hd 0 (w.alloc (.cells (rpC hd RX0).toArray 66 (0, 0))) RX0 from
  ⟨⟨by rw [hg]; exact HX, fun k _ s hs => (by cases hs), fun k _ j _ _ s t hs => (by cases hs), fun k _ s hs => (by cases hs), fun h => h, fun k h => h.elim⟩, fun k hk => absurd hk (Nat.not_lt_zero _), fun k hk => rfl, fun i hi => (by
    rcases hi with e | ⟨j, s, hj, hs, e⟩
    ·omega
    ·cases hs), HB.out⟩)
 have HG := Shut.mk hg
 have HAL := Shut.mk (show w.alloc (Obj.cells #[.int .u32 (uv hd.seed), .int .i64 hd.tg, .int .i64 hd.iv, .int .i64 hd.mp, .int .i64 hd.mb, Value.pointer none, Value.pointer none, Value.pointer none, Value.pointer none, Value.pointer none, Value.pointer none, Value.pointer none, Value.pointer none, Value.pointer none, Value.pointer none, Value.pointer none, Value.pointer none, Value.pointer none, Value.pointer none, Value.pointer none, Value.pointer none, Value.pointer none, Value.pointer none, Value.pointer none, Value.pointer none, Value.pointer none, Value.pointer none, Value.pointer none, Value.pointer none, Value.pointer none, Value.pointer none, Value.pointer none, Value.pointer none, Value.pointer none, Value.pointer none, Value.pointer none, Value.pointer none, Value.pointer none, Value.pointer none, Value.pointer none, Value.pointer none, Value.pointer none, Value.pointer none, Value.pointer none, Value.pointer none, Value.pointer none, Value.pointer none, Value.pointer none, Value.pointer none, Value.pointer none, Value.pointer none, Value.pointer none, Value.pointer none, Value.pointer none, Value.pointer none, Value.pointer none, Value.pointer none, Value.pointer none, Value.pointer none, Value.pointer none, Value.pointer none, Value.pointer none, Value.pointer none, Value.pointer none, Value.pointer none, Value.pointer none, Value.pointer none, Value.pointer none, Value.pointer none, Value.pointer none, Value.pointer none, Value.pointer none, Value.pointer none, Value.pointer none, Value.pointer none, Value.pointer none, Value.pointer none, Value.pointer none, Value.pointer none, Value.pointer none, Value.pointer none, Value.pointer none, Value.pointer none, Value.pointer none, Value.pointer none, Value.pointer none, Value.pointer none, Value.pointer none, Value.pointer none, Value.pointer none, Value.pointer none, Value.pointer none, Value.pointer none, Value.pointer none, Value.pointer none, Value.pointer none, Value.pointer none, Value.pointer none, Value.pointer none, Value.pointer none, Value.pointer none, Value.pointer none, Value.pointer none, Value.pointer none, Value.pointer none, Value.pointer none, Value.pointer none, Value.pointer none, Value.pointer none, Value.pointer none, Value.pointer none, Value.pointer none, Value.pointer none, Value.pointer none, Value.pointer none, Value.pointer none, Value.pointer none, Value.pointer none, Value.pointer none, Value.pointer none, Value.pointer none, Value.pointer none, Value.pointer none, Value.pointer none, Value.pointer none, Value.pointer none, Value.pointer none, Value.pointer none, Value.pointer none, Value.pointer none, Value.pointer none, Value.pointer none, Value.pointer none, Value.pointer none, Value.pointer none, Value.pointer none, Value.pointer none, Value.pointer none, Value.pointer none, Value.pointer none, Value.pointer none] 66 (0, 0)) = w.alloc (.cells (rpC hd RX0).toArray 66 (0, 0)) from rfl)
 clear HX
 go_enter Tryz.func7, Tryz.ntmps7
 go_wp2_with (fail)
 rw [← hg]
 clear hg HB
 first | rw [HAL.out] | skip
 go_loopw [12] (fun av wr => ∃ a : Nat, a ≤ 17 ∧ av = .int .i64 (a : Int) ∧ ∃ X, RNew w g hd (a * 8) wr X) (fun av _ => 17 - (intOf av).toNat)
 case atStart => exact ⟨0, by omega, rfl, _, HR0.out⟩
 case round =>
  obtain ⟨a, ha, rfl, X, hr⟩ := hrel
  have HR := Shut.mk hr
  clear hr HR0 HAL
  by_cases hlt : a < 17
  ·have hai : (a : Int) ≤ 16 := by omega
   have hai7 : (a : Int) < 17 := by omega
   go_wp2_with (fail)
   go_loopw [13] (fun tv wr => ∃ t : Nat, t ≤ 8 ∧ tv = .int .i64 (t : Int) ∧ ∃ X, RNew w g hd (a * 8 + t) wr X) (fun tv _ => 8 - (intOf tv).toNat)
   case atStart => exact ⟨0, by omega, rfl, _, HR.out⟩
   case round =>
    clear HR X
    obtain ⟨t, ht, rfl, X, hr⟩ := hrel
    have HR := Shut.mk hr
    clear hr
    by_cases htl : t < 8
    ·have hti : (t : Int) < 8 := by omega
     have HK := Shut.mk (show a * 8 + t < 136 by omega)
     have HP := Shut.mk HR.out.is
     have HA17 := Shut.mk hai7
     have HT8 := Shut.mk hti
     obtain ⟨pre, post, hpl, hsp, hsu⟩ := rpC_split hd X HK.out
     have HPL := Shut.mk (show pre.length = 5 + a * 8 + t by rw [hpl]; omega)
     have HSP := Shut.mk hsp
     have HSU := Shut.mk (show ∀ s : Qs, rpC hd (updF X (a * 8 + t) (some s)) = pre ++ [Value.pointer (some ⟨s.x.g, 0, none⟩)] ++ post from fun s => hsu (some s))
     clear hpl hsp hsu
     obtain ⟨w5, hw5⟩ : ∃ wq, wq = World.drew wr := ⟨_, rfl⟩
     have HWw5 := Shut.mk hw5
     have HDw5 := Shut.mk (show Below wr.heap.size wr w5 by rw [hw5]; exact (Below.refl _ _).drew)
     clear hw5
     go_wp2_with (fail)
     refine wp_region_D (fun w' => Below w5.heap.size w5 w') 11 (by kernel_rfl) (show Below w5.heap.size w5 (World.drew wr) by rw [HWw5.out]; exact Below.refl _ _) (fun hHeld hC => ?_)
     rw [← HWw5.out] at hHeld ⊢
     refine dP 0 hC hHeld ?_; clear hC; intro hC
     refine dP 1 hC hHeld ?_; clear hC; intro hC
     refine dP 2 hC hHeld ?_; clear hC; intro hC
     refine dP 3 hC hHeld ?_; clear hC; intro hC
     refine dP 4 hC hHeld ?_; clear hC; intro hC
     refine dP 5 hC hHeld ?_; clear hC; intro hC
     refine dP 7 hC hHeld ?_; clear hC; intro hC
     refine dP 8 hC hHeld ?_; clear hC; intro hC
     refine wpAnyD_pure (i := 9) (v := ?_) rfl hC (by kernel_rfl) (by kernel_rfl) (by kernel_rfl) (by decide) (fun _ _ _ h => h) (Or.inl ⟨by rfl, ?_⟩) (fun _ => hHeld) ?_
     rotate_left
     ·intro w hSw
      have h17 := HA17.out
      clear hSw
      go_simp
      try with_reducible rfl
     try simp only [Act.put, sG1, sG2, sG3, sG4, sG5, sG6]
     clear hC
     intro hC
     refine wpAnyD_one (i := 6) (by kernel_rfl) rfl hC (fun K hK => ?_)
     clear hC
     go_simp
     refine (refnew_any (uv hd.seed) hd.tg hd.iv w5).mono ?_
     rintro e' wv1 ⟨rfl, hQ, hB⟩
     obtain ⟨xg, hxg⟩ : ∃ s, s = w5.heap.size := ⟨_, rfl⟩
     rw [← hxg] at hQ
     have HXG := Shut.mk (show wr.heap.size ≤ xg by rw [hxg]; exact Nat.le_trans HDw5.out.size hHeld.size)
     have HBN := Shut.mk (HDw5.out.trans ((hHeld.trans (hB.mono hHeld.size)).mono HDw5.out.size))
     have HPN := Shut.mk (HP.out.quiet HBN.out)
     have HBK := Shut.mk (show wv1.heap[g]? = some (.cells (pre ++ [ptrQ (X (a * 8 + t))] ++ post).toArray 66 (0, 0)) by rw [← HSP.out]; exact HPN.out.blk)
     have hmade := HPN.out.made HK.out HBN.out HP.out HXG.out hQ
     obtain ⟨w8, hw8⟩ : ∃ w8, w8 = wv1.setRow g (rpC hd (updF X (a * 8 + t) (some ⟨⟨xg, uv hd.seed, hd.tg, hd.iv⟩, V00, quZ⟩))).toArray := ⟨_, rfl⟩
     rw [← hw8] at hmade
     have HW8 := Shut.mk (show wv1.setRow g (pre ++ [Value.pointer (some ⟨xg, 0, none⟩)] ++ post).toArray = w8 by rw [hw8, HSU.out ⟨⟨xg, uv hd.seed, hd.tg, hd.iv⟩, V00, quZ⟩])
     have HPP := Shut.mk hmade.1
     have HSA := Shut.mk hmade.2
     clear hmade hw8
     rw [← hxg]
     clear hQ hxg
     have hHeld2 := hHeld.trans (hB.mono hHeld.size)
     clear hB
     clear hHeld
     have hHeld := hHeld2
     clear hHeld2
     refine hK.out _ _ (fun _ => hHeld) (fun hC => ?_)
     clear hK K
     try simp only [Act.put, sG1, sG2, sG3, sG4, sG5, sG6]
     refine wpAnyD_pure (i := 10) (v := ?_) rfl hC (by kernel_rfl) (by kernel_rfl) (by kernel_rfl) (by decide) (fun _ _ _ h => h) (Or.inl ⟨by rfl, ?_⟩) (fun _ => hHeld) ?_
     rotate_left
     ·intro w hSw
      have h8 := HT8.out
      clear hSw
      go_simp
      try with_reducible rfl
     try simp only [Act.put, sG1, sG2, sG3, sG4, sG5, sG6]
     clear hC
     intro hC
     refine wpAnyD_one (i := 11) (by kernel_rfl) rfl hC (fun K hK => ?_)
     clear hC
     refine step_store_fld rfl 62 (.tmp 39) (.tmp 35) rfl g (5 + a * 8 + t) 0 (.pointer (some ⟨xg, 0, none⟩)) rfl rfl rfl 66 pre [ptrQ (X (a * 8 + t))] [.pointer (some ⟨xg, 0, none⟩)] post HBK.out HPL.out size1Rq (by show 0 < 1; omega) rfl ?_
     rw [show World.setRow wv1 g _ = w8 from HW8.out]
     refine hK.out _ _ (past (by kernel_rfl)) (fun hC => ?_)
     clear hK K
     try simp only [Act.put, sG1, sG2, sG3, sG4, sG5, sG6]
     refine wpAnyD_done (by kernel_rfl) ?_ _
     try simp only [Act.put, sG1, sG2, sG3, sG4, sG5, sG6]
     have HN := Shut.mk (HR.out.step HK.out HPP.out HSA.out)
     clear hC HPP HSA HW8
     go_wp2_with (fail)
     go_roundw
     case rel => exact ⟨t + 1, by omega, by go_num, _, HN.out⟩
     case measure => simp [intOf]; omega
    ·obtain rfl : t = 8 := by omega
     have HN := Shut.mk (show RNew w g hd ((a + 1) * 8) wr X from (show (a + 1) * 8 = a * 8 + 8 by omega) ▸ HR.out)
     go_wp2_with (fail)
     go_roundw
     case rel => exact ⟨a + 1, by omega, by go_num, _, HN.out⟩
     case measure => simp [intOf]; omega
  ·obtain rfl : a = 17 := by omega
   go_wp2_with (fail)
   go_ret
   exact ⟨by rw [HG.out]; rfl, X, by rw [← HG.out]; exact HR.out⟩
end Go.Proofs.YtndkmgcmegcieaaGreatDoor
