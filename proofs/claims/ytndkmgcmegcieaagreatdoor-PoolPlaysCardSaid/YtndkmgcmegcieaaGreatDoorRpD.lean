/-
  THE REFERENCE's POOL: Take.
-/
import Derived.Test.YtndkmgcmegcieaaGreatDoorRpC
import Derived.Test.YtndkmgcmegcieaaGreatDoorFqRg
import Derived.Test.YtndkmgcmegcieaaGreatDoorPoolJ
namespace Go.Proofs.YtndkmgcmegcieaaGreatDoor
open Go.ChangeShapes Go.WideShapes Go.ChangeAt Go.RowKit Go.Deep
set_option linter.unusedVariables false
set_option linter.unusedSimpArgs false
theorem full_upd {X : Nat → Option Qs} (h : FullR X) (j : Nat) (s : Qs) : FullR (updF X j (some s)) := fun k hk => by
 by_cases e : k = j
 ·subst e; exact ⟨s, updF_same _ _ _⟩
 ·rw [updF_other _ _ e]; exact h k hk
theorem mR_upd (X : Nat → Option Qs) (a t : Nat) (s : Qs) : mR (updF X ((a + 1) * 8 + t) (some s)) = updF (mR X) (8 * a + t) s.q := by
 funext k
 unfold mR
 rw [mOf_upd]
 by_cases e : k = 8 * a + t
 ·subst e
  rw [updF_same, show 8 + (8 * a + t) = (a + 1) * 8 + t by omega, updF_same]
 ·rw [updF_other _ _ e, updF_other _ _ (by omega)]
def RTook (T : Nat → Prop) (w' : World) (r : Option Pk) (late v : Value) (e : Ending) : Prop :=
 (r = none ∧ v = .slice none 0 0 ∧ e = .returned (.tuple #[pkV pk00.1 v, late, .bool false])) ∨ ∃ p, r = some p ∧ e = .returned (.tuple #[pkV p v, late, .bool true]) ∧ ElK T w' v p.body
theorem RTook.form {T : Nat → Prop} {w' : World} {r : Option Pk} {late v : Value} {e : Ending} (h : RTook T w' r late v e) : ∃ p0 A0 m0 c0 b0, v = .slice A0 m0 c0 ∧ e = .returned (.tuple #[pkV p0 v, late, .bool b0]) := by
 rcases h with ⟨-, h2, h3⟩ | ⟨p, -, h3, h4⟩
 ·exact ⟨_, none, 0, 0, false, h2, h3⟩
 ·obtain ⟨A, m, c, h5, -, -⟩ := h4
  exact ⟨p, A, m, c, true, h5, h3⟩
structure RTakeE (T : Nat → Prop) (w : World) (g : Nat) (hd : Hd) (X : Nat → Option Qs) (k : Nat) (r : Option Pk) (ds : List Pk) (q' : Qu) (e : Ending) (w' : World) : Prop where
 out : ∃ X' late v, IsRpl T w' g hd X' ∧ RlS T w g X T w' X' ∧ FullR X' ∧ mR X' = updF (mR X) k q' ∧ OwnP T w' w.heap.size late ds ∧ RTook T w' r late v e
set_option maxRecDepth 100000 in
set_option maxHeartbeats 8000000 in
theorem reftake_p_no (w : World) (g : Nat) (aid tid now : Int) (hk : ¬ knownP aid tid) :
 Calls Tryz.prog 15 #[.pointer (some ⟨g, 0, none⟩), .int .i64 aid, .int .i64 tid, .int .i64 now] w fun e w' => e = .returned (.tuple #[pkV pk00.1 (.slice none 0 0), .slice none 0 0, .bool false]) ∧ Below w.heap.size w w' := by
 have HB1 := Shut.mk ((Below.refl w.heap.size w).alloc (Nat.le_refl _) (Obj.cells #[Value.int .i64 0, .int .u32 0, .int .i64 0, .int .i64 0, Value.slice none 0 0] 35 (0, 0)))
 have HX1 := Shut.mk (MapKept.heap_alloc w (Obj.cells #[Value.int .i64 0, .int .u32 0, .int .i64 0, .int .i64 0, Value.slice none 0 0] 35 (0, 0))).1
 have HBZ := Shut.mk (below_setRow HB1.out (Nat.le_refl _) #[Value.int .i64 0, .int .u32 0, .int .i64 0, .int .i64 0, Value.slice none 0 0])
 have HX2 := Shut.mk (setRow_heap _ _ _ #[Value.int .i64 0, .int .u32 0, .int .i64 0, .int .i64 0, Value.slice none 0 0] _ (0, 0) HX1.out)
 have HKT := Shut.mk (fun w => there_any aid tid w false ⟨fun e => (by cases e), fun e => absurd e hk⟩)
 clear hk
 go_enter Tryz.func15, Tryz.ntmps15
 go_wp2_with (fail)
 refine (HKT.out _).mono ?_
 rintro e wn ⟨rfl, rfl⟩
 go_wp2_with (first
  | (refine wpList_store_row rfl 35 (.tmp 8) (.tmp 15) rfl w.heap.size #[Value.int .i64 0, .int .u32 0, .int .i64 0, .int .i64 0, Value.slice none 0 0] rfl rfl 35 _ HX1.out size5 rfl (pkt_one _ _ _ _ _ _ _) ?_))
 exact bodyPost_ret (v := .tuple #[.agg #[Value.int .i64 0, .int .u32 0, .int .i64 0, .int .i64 0, Value.slice none 0 0], .slice none 0 0, .bool false]) (results_ctt (p := 8) (q := 9) (r := 10) Tryz.results15 _ _ w.heap.size _ _ _ _ _ _ rfl rfl rfl HX2.out Tryz.underlying35 rfl size5) rfl ⟨rfl, HBZ.out⟩
set_option maxRecDepth 100000 in
set_option maxHeartbeats 8000000 in
theorem reftake_p_in {T : Nat → Prop} {w : World} {g : Nat} {hd : Hd} {X : Nat → Option Qs} (hp : IsRpl T w g hd X) (hf : FullR X) (a t : Nat) (ha : a < 16) (ht : t < 8) (aid tid : Int) (hai : aid = (a : Int) + 1) (hti : tid = (t : Nat)) (now : Int) (h0 : 0 ≤ now) (hM : now + 1073741824 ≤ 4503599627370496)
 (r : Option Pk) (ds : List Pk) (q' : Qu) (hT : Takes ⟨now, clampR hd.tg 0 1073741824, clampR hd.iv 0 1073741824⟩ (mR X (8 * a + t)) [] r ds q') :
 Calls Tryz.prog 15 #[.pointer (some ⟨g, 0, none⟩), .int .i64 aid, .int .i64 tid, .int .i64 now] w fun e w' => RTakeE T w g hd X (8 * a + t) r ds q' e w' := by
 have HB1 := Shut.mk ((Below.refl w.heap.size w).alloc (Nat.le_refl _) (Obj.cells #[Value.int .i64 0, .int .u32 0, .int .i64 0, .int .i64 0, Value.slice none 0 0] 35 (0, 0)))
 have HX1 := Shut.mk (MapKept.heap_alloc w (Obj.cells #[Value.int .i64 0, .int .u32 0, .int .i64 0, .int .i64 0, Value.slice none 0 0] 35 (0, 0))).1
 have HP1 := Shut.mk (hp.quiet HB1.out)
 have HLT := Shut.mk (show ∀ i, FootL g X i ∨ T i → i < w.heap.size from fun i hi => hi.elim hp.lts (hp.there i))
 have HTM := Shut.mk (show 0 ≤ now ∧ now + 1073741824 ≤ 4503599627370496 from ⟨h0, hM⟩)
 have HK := Shut.mk (show (a + 1) * 8 + t < 136 by omega)
 have HKT := Shut.mk (fun w => there_any aid tid w true ⟨fun _ => (by subst hai; subst hti; exact ⟨⟨by omega, by omega⟩, by omega, by omega⟩), fun _ => rfl⟩)
 obtain ⟨s, hx⟩ := hf _ HK.out
 have HFU := Shut.mk hf
 rw [mR_some hx] at hT
 have HQ := Shut.mk (HP1.out.qs _ HK.out s hx)
 have HXS := Shut.mk hx
 have HTK := Shut.mk hT
 have hcell := HP1.out.at_ (a := a + 1) (by omega) ht hx
 obtain ⟨a1, ha1⟩ : ∃ a1 : Nat, a1 = a + 1 := ⟨_, rfl⟩
 rw [← ha1] at hcell
 obtain rfl : aid = (a1 : Int) := by omega
 subst hti
 have hai7 : (a1 : Int) < 17 := by omega
 have hti8 : (t : Int) < 8 := by omega
 clear hp h0 hM hx hT hai ha1 hf
 obtain ⟨s8, hs8⟩ : ∃ s, s = w.heap.size := ⟨_, rfl⟩
 have HS8 := Shut.mk hs8
 go_enter Tryz.func15, Tryz.ntmps15
 go_wp2_with (fail)
 rw [← hs8]
 rw [← hs8] at HX1 HLT
 clear hs8
 generalize World.alloc w _ = w1 at *
 refine (HKT.out _).mono ?_
 rintro e wn ⟨rfl, rfl⟩
 go_wp2_with (fail)
 refine (reftake_any (bkQ hd.seed) (bkQ_lt hd.seed) T w1 s.x s.V s.q HQ.out.is HQ.out.inv HQ.out.few now HTM.out.1 HTM.out.2 r ds q' (by rw [HQ.out.tg, HQ.out.iv]; exact HTK.out)).mono ?_
 rintro e w2 ⟨V', late, v, hQ2, hC, hO, hE⟩
 have hE2 : RTook T w2 r late v e := hE
 have hcall := HP1.out.call HK.out HXS.out hQ2 hC (takes_keep HTK.out HQ.out.inv).1 (takes_few HTK.out HTM.out.1 HTM.out.2 HQ.out.inv HQ.out.few)
 have HPC := Shut.mk hcall.1
 have HPS := Shut.mk hcall.2
 obtain ⟨p0, A0, m0, c0, b0, hv, he⟩ := hE2.form
 subst hv
 subst he
 have HET := Shut.mk hE2
 have HO := Shut.mk hO
 have HSL := Shut.mk (show s8 < w1.heap.size from lt_blk HX1.out)
 have HX2 := Shut.mk (HPS.out.only.at_ HX1.out (fun e => by have := HLT.out s8 (.inl e); omega))
 have HM := Shut.mk (mR_upd X a t ⟨s.x, V', q'⟩)
 clear hQ2 hC hO hE hcall hE2
 obtain ⟨pi, pf, pt, pa, pb⟩ := p0
 unfold pkV at HET ⊢
 dsimp only at HET ⊢
 have HX3 := Shut.mk (setRow_heap w2 s8 _ #[Value.int .i64 pi, .int .u32 pf, .int .i64 pt, .int .i64 pa, Value.slice A0 m0 c0] _ (0, 0) HX2.out)
 have HO3 := Shut.mk (only_setRow w2 s8 #[Value.int .i64 pi, .int .u32 pf, .int .i64 pt, .int .i64 pa, Value.slice A0 m0 c0])
 go_wp2_with (first
  | (refine wpList_store_row rfl 35 (.tmp 8) (.tmp 26) rfl s8 #[Value.int .i64 pi, .int .u32 pf, .int .i64 pt, .int .i64 pa, Value.slice A0 m0 c0] rfl rfl 35 _ HX2.out size5 rfl (pkt_one _ _ _ _ _ _ _) ?_))
 have hs := HS8.out
 have hfl : ∀ i, FootL g (updF X ((a + 1) * 8 + t) (some ⟨s.x, V', q'⟩)) i → i ≠ s8 := fun i hi e => by
  rcases HPS.out.fresh i hi with h1 | h1
  ·have := HLT.out i (.inl h1); omega
  ·have := HSL.out; omega
 refine bodyPost_ret (v := .tuple #[.agg #[Value.int .i64 pi, .int .u32 pf, .int .i64 pt, .int .i64 pa, Value.slice A0 m0 c0], late, .bool b0]) (results_ctt (p := 8) (q := 9) (r := 10) Tryz.results15 _ _ s8 _ _ _ _ _ _ rfl rfl rfl HX3.out Tryz.underlying35 rfl size5) rfl
  ⟨updF X ((a + 1) * 8 + t) (some ⟨s.x, V', q'⟩), late, .slice A0 m0 c0, HPC.out.only HO3.out hfl (fun i hi e => by have := HLT.out i (.inr hi); omega), (RlS.from_ HB1.out HPS.out).over HO3.out (fun i e => by omega), full_upd HFU.out _ _, HM.out, ?_, ?_⟩
 ·exact OwnK.only (OwnP.base HO.out (by have := HB1.out.size; omega)) HO3.out (fun i hi e => by have h1 := (OwnP.lt HO.out i hi).1; have h2 := HSL.out; omega) (fun i hi e => by have h1 := HLT.out i (.inr hi); omega)
 ·rcases HET.out with ⟨e1, e2, e3⟩ | ⟨p, e1, e2, e3⟩
  ·exact .inl ⟨e1, e2, e3⟩
  ·exact .inr ⟨p, e1, e2, e3.only HO3.out (fun k hk e => by have := HLT.out k (.inr hk); omega)⟩
end Go.Proofs.YtndkmgcmegcieaaGreatDoor
