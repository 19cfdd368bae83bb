/-
  CONTRACT of (*fq.flow).shift.
-/
import Derived.Test.YtndkmgcmegcieaaGreatDoorFqI
namespace Go.Proofs.YtndkmgcmegcieaaGreatDoor
open Go.ChangeShapes Go.WideShapes Go.ChangeAt Go.RowKit Go.Deep
set_option linter.unusedVariables false
set_option linter.unusedSimpArgs false
theorem RowPk.shift {T : Nat → Prop} {w : World} {b of n cap : Nat} {p : Pk} {r : List Pk} {pr po : List Value} {c5 cs : List Value} {t : TypeId} (h : RowPk T w (.slice (some ⟨b, of, none⟩) n cap) (p :: r))
 (hg : w.heap[b]? = some (.cells (pr ++ c5 ++ po).toArray t (0, 0))) (hp : pr.length = of) (h5 : c5.length = 5) (hcs : cs.length = 5) (hT : ¬ T b) :
 RowPk T (w.setRow b (pr ++ cs ++ po).toArray) (.slice (some (if cap = 1 then ⟨b, of, none⟩ else ⟨b, of + 5, none⟩)) r.length (cap - 1)) r := by
 obtain ⟨g', o', cap', u, pre, post, e, hc, hp', hg', -, hr⟩ := h.first
 simp only [Value.slice.injEq, Option.some.injEq, Addr.mk.injEq, true_and, and_true] at e
 obtain ⟨⟨rfl, rfl⟩, rfl, rfl⟩ := e
 rw [hg] at hg'
 simp only [Option.some.injEq, Obj.cells.injEq, List.toArray_inj, and_true] at hg'
 have e2 : pr ++ c5 ++ po = pre ++ pkC p u ++ post := by have := congrArg Array.toList hg'.1; simpa using this
 rw [List.append_assoc, List.append_assoc] at e2
 obtain ⟨rfl, e3⟩ := List.append_inj e2 (by omega)
 obtain ⟨-, rfl⟩ := List.append_inj e3 (by rw [h5]; rfl)
 exact hr _ cs hcs (fun k hk e => hT (e ▸ hk)) rfl
set_option maxRecDepth 100000 in
set_option maxHeartbeats 8000000 in
theorem shift_any (T : Nat → Prop) (g o : Nat) (tq : TypeId) (pre post : List Value) (vp vi : Value) (p : Pk) (r : List Pk) (i : It) (ir : List It) (n df : Int) (c : Cd) (w : World)
 (h : FlB T w g tq pre post vp vi (p :: r) (i :: ir) n df c) (ho : pre.length = o) (hb : p.body.length ≤ 1000000000) (hn : 0 ≤ n ∧ n ≤ 4503599627370496) :
 Calls Tryz.prog 82 #[.pointer (some ⟨g, o, none⟩)] w fun e w' => ∃ v vp' vi', e = .returned (pkV p v) ∧ OwnV w' w.heap.size v p.body ∧ FlB T w' g tq pre post vp' vi' r ir (n - (p.body.length : Nat)) df c ∧ FlS T w g vp vi T w' vp' vi' ∧ vp'.ownBlock = vp.ownBlock ∧ vi'.ownBlock = vi.ownBlock := by
 obtain ⟨b, of, cap, u, pr2, po2, rfl, hcap, hpr2, hgb, hu, hrest⟩ := h.pk.first
 obtain ⟨bi, oi, capi, rfl, hcapi, hit⟩ := h.it.tail
 obtain ⟨rl, hrl⟩ : ∃ k, r.length = k := ⟨_, rfl⟩
 obtain ⟨il, hil⟩ : ∃ k, ir.length = k := ⟨_, rfl⟩
 have HRLL := Shut.mk hrl
 rw [hrl] at h hcap ⊢
 rw [hil] at h hcapi hit ⊢
 obtain ⟨AP, hAP⟩ : ∃ AP : Addr, (if cap = 1 then some (⟨b, of, none⟩ : Addr) else some ⟨b, of + 5, none⟩) = some AP := by split <;> exact ⟨_, rfl⟩
 have eAP : (if cap = 1 then (⟨b, of, none⟩ : Addr) else ⟨b, of + 5, none⟩) = AP := by split at hAP <;> simp_all
 have hAPb : AP.block = b := by rw [← eAP]; split <;> rfl
 obtain ⟨AI, hAI⟩ : ∃ AI : Addr, (if capi = 1 then some (⟨bi, oi, none⟩ : Addr) else some ⟨bi, oi + 2, none⟩) = some AI := by split <;> exact ⟨_, rfl⟩
 have eAI : (if capi = 1 then (⟨bi, oi, none⟩ : Addr) else ⟨bi, oi + 2, none⟩) = AI := by split at hAI <;> simp_all
 have hAIb : AI.block = bi := by rw [← eAI]; split <;> rfl
 clear hrest
 have EAP := Shut.mk eAP
 rw [eAI] at hit
 obtain ⟨au, mu, cu, rfl, hru, hmu, -⟩ := hu
 obtain ⟨pi, pf, pt, pa, pb⟩ := p
 dsimp only at *
 obtain rfl : mu = pb.length := hru.len.symm
 obtain ⟨m, hm⟩ : ∃ m, pb.length = m := ⟨_, rfl⟩
 rw [hm] at hru hb hgb ⊢
 have hgb' : w.heap[b]? = some (.cells (pr2 ++ [Value.int .i64 pi, .int .u32 pf, .int .i64 pt, .int .i64 pa, Value.slice au m cu] ++ po2).toArray 35 (0, 0)) := hgb
 have HWR := Shut.mk (show IntKind.i64.wrap (n - (m : Int)) = n - (m : Int) from IntWalk.i64_in _ ⟨by omega, by omega⟩)
 have HM := Shut.mk hm
 have HMB := Shut.mk hb
 have HOO := Shut.mk ho
 have HPR := Shut.mk hpr2
 have HF0 := Shut.mk h
 have HIT := Shut.mk hit
 have hbg : b ≠ g ∧ ¬ T b := h.pg b rfl
 have hig : bi ≠ g ∧ ¬ T bi := h.ig bi rfl
 have hbbi : b ≠ bi := fun e => h.pi b rfl (by rw [e]; rfl)
 have HBG := Shut.mk hbg
 have HBI := Shut.mk hig
 have HBB := Shut.mk hbbi
 have HGT := Shut.mk h.gt
 have HNP := Shut.mk (show ∀ k, (Value.slice (some AP) rl (cap - 1)).ownBlock = some k → ¬ k = g from fun k hk e => by
  have e2 : AP.block = k := by simpa [Value.ownBlock] using hk
  exact hbg.1 (by rw [← hAPb, e2]; exact e))
 have HPG := Shut.mk (show ∀ k, (Value.slice (some AP) rl (cap - 1)).ownBlock = some k → k ≠ g ∧ ¬ T k from fun k hk => by
  have e : AP.block = k := by simpa [Value.ownBlock] using hk
  rw [← e, hAPb]; exact hbg)
 have HNI := Shut.mk (show ∀ k, (Value.slice (some AI) il (capi - 1)).ownBlock = some k → ¬ k = g from fun k hk e => by
  have e2 : AI.block = k := by simpa [Value.ownBlock] using hk
  exact hig.1 (by rw [← hAIb, e2]; exact e))
 have HIG := Shut.mk (show ∀ k, (Value.slice (some AI) il (capi - 1)).ownBlock = some k → k ≠ g ∧ ¬ T k from fun k hk => by
  have e : AI.block = k := by simpa [Value.ownBlock] using hk
  rw [← e, hAIb]; exact hig)
 have HPI := Shut.mk (show ∀ k, (Value.slice (some AP) rl (cap - 1)).ownBlock = some k → (Value.slice (some AI) il (capi - 1)).ownBlock ≠ some k from fun k hk e => by
  have e1 : AP.block = k := by simpa [Value.ownBlock] using hk
  have e2 : AI.block = k := by simpa [Value.ownBlock] using e
  exact hbbi (by rw [← hAPb, ← hAIb, e1, e2]))
 have HAPB := Shut.mk hAPb
 have HAIB := Shut.mk hAIb
 have n1 : rl + 1 ≤ cap := hcap
 have n2 : il + 1 ≤ capi := hcapi
 have b0 : (rl : Int) + 1 ≤ (cap : Int) := by omega
 have b1 : (0 : Int) ≤ (rl : Int) := by omega
 have b2 : (1 : Int) ≤ (rl : Int) + 1 := by omega
 have b2' : (0 : Int) < (rl : Int) + 1 := by omega
 have c0 : (il : Int) + 1 ≤ (capi : Int) := by omega
 have c1 : (0 : Int) ≤ (il : Int) := by omega
 have c2 : (1 : Int) ≤ (il : Int) + 1 := by omega
 have HA1 := Shut.mk ((Below.refl w.heap.size w).alloc (Nat.le_refl _) (Obj.cells #[Value.int .i64 0, .int .u32 0, .int .i64 0, .int .i64 0, Value.slice none 0 0] 35 (0, 0)))
 have HX1 := Shut.mk (MapKept.heap_alloc w (Obj.cells #[Value.int .i64 0, .int .u32 0, .int .i64 0, .int .i64 0, Value.slice none 0 0] 35 (0, 0))).1
 have HF1 := Shut.mk (HF0.out.quiet HA1.out)
 have HGB1 := Shut.mk ((HA1.out.block _ (lt_blk hgb')).trans hgb')
 have HRU1 := Shut.mk (hru.below HA1.out)
 have hl1 : (w.alloc (Obj.cells #[Value.int .i64 0, .int .u32 0, .int .i64 0, .int .i64 0, Value.slice none 0 0] 35 (0, 0))).cell? ⟨g, o, none⟩ = some (Value.slice (some ⟨b, of, none⟩) (rl + 1) cap) := HF1.out.cell ho (j := 0) rfl
 have HRG1 := Shut.mk (show (w.alloc (Obj.cells #[Value.int .i64 0, .int .u32 0, .int .i64 0, .int .i64 0, Value.slice none 0 0] 35 (0, 0))).rangeAt b of [Value.int .i64 pi, .int .u32 pf, .int .i64 pt, .int .i64 pa, Value.slice au m cu] from by have := mid_range HGB1.out hpr2 (j := 0) (cs := [Value.int .i64 pi, .int .u32 pf, .int .i64 pt, .int .i64 pa, Value.slice au m cu]) (fun i u hu => by rw [Nat.zero_add]; exact hu); rwa [Nat.add_zero] at this)
 have HGL := Shut.mk h.lt
 have HBL := Shut.mk (lt_blk hgb')
 have HBIL := Shut.mk (show bi < w.heap.size from h.it.lt bi rfl)
 clear hb hpr2 h hit hbg hig hbbi eAP eAI hAPb hAIb hgb hgb' hru hmu hm hn ho hcap hcapi
 go_enter Tryz.func82, Tryz.ntmps82
 go_wp2_with (first
  | (refine wpList_load_mid rfl 35 (.tmp 8) rfl b of rfl [Value.int .i64 pi, .int .u32 pf, .int .i64 pt, .int .i64 pa, Value.slice au m cu] _ HRG1.out Tryz.underlying35 rfl size5 ?_))
 clear hl1
 generalize World.alloc w _ = w1 at *
 refine (copied_any ⟨pi, pf, pt, pa, pb⟩ au m cu _ HRU1.out HMB.out).mono ?_
 rintro e w2 ⟨y, rfl, hO, hB⟩
 have HO2 := Shut.mk hO
 have HB2 := Shut.mk hB
 obtain ⟨ay, cy, hy, -⟩ := owns_form hO
 dsimp only at hy
 rw [HM.out] at hy
 subst hy
 have HX2 := Shut.mk ((hB.block _ (lt_blk HX1.out)).trans HX1.out)
 have HF2 := Shut.mk (HF1.out.quiet hB)
 have HGB2 := Shut.mk ((hB.block _ (lt_blk HGB1.out)).trans HGB1.out)
 clear hO hB
 unfold pkV
 dsimp only
 obtain ⟨s3, hs3⟩ : ∃ s, s = w2.heap.size := ⟨_, rfl⟩
 obtain ⟨s0, hs0⟩ : ∃ s, s = w.heap.size := ⟨_, rfl⟩
 have HS3 := Shut.mk hs3
 have HS0 := Shut.mk hs0
 have HA3 := Shut.mk ((Below.refl w2.heap.size w2).alloc (Nat.le_refl _) (Obj.cells #[Value.int .i64 0, .int .u32 0, .int .i64 0, .int .i64 0, Value.slice none 0 0] 35 (0, 0)))
 have HX3 := Shut.mk (show (w2.alloc (Obj.cells #[Value.int .i64 0, .int .u32 0, .int .i64 0, .int .i64 0, Value.slice none 0 0] 35 (0, 0))).heap[s3]? = some (Obj.cells #[Value.int .i64 0, .int .u32 0, .int .i64 0, .int .i64 0, Value.slice none 0 0] 35 (0, 0)) by rw [hs3]; exact (MapKept.heap_alloc w2 (Obj.cells #[Value.int .i64 0, .int .u32 0, .int .i64 0, .int .i64 0, Value.slice none 0 0] 35 (0, 0))).1)
 obtain ⟨w4, hw4⟩ : ∃ w4, w4 = (w2.alloc (Obj.cells #[Value.int .i64 0, .int .u32 0, .int .i64 0, .int .i64 0, Value.slice none 0 0] 35 (0, 0))).setRow s3 #[Value.int .i64 pi, .int .u32 pf, .int .i64 pt, .int .i64 pa, Value.slice ay m cy] := ⟨_, rfl⟩
 have HY3 := Shut.mk (show w4.heap[s3]? = some (Obj.cells #[Value.int .i64 pi, .int .u32 pf, .int .i64 pt, .int .i64 pa, Value.slice ay m cy] 35 (0, 0)) by rw [hw4]; exact setRow_heap _ s3 _ #[Value.int .i64 pi, .int .u32 pf, .int .i64 pt, .int .i64 pa, Value.slice ay m cy] _ (0, 0) HX3.out)
 have HB4 := Shut.mk (show Below w2.heap.size w2 w4 by rw [hw4]; exact below_setRow HA3.out (by omega) _)
 have HW4 := Shut.mk hw4
 have HF4 := Shut.mk (HF2.out.quiet HB4.out)
 have HX4 := Shut.mk ((HB4.out.block _ (lt_blk HX2.out)).trans HX2.out)
 have HGB4 := Shut.mk ((HB4.out.block _ (lt_blk HGB2.out)).trans HGB2.out)
 have HO4 := Shut.mk (owns_below HO2.out HB4.out)
 have hl4 : w4.cell? ⟨g, o, none⟩ = some (Value.slice (some ⟨b, of, none⟩) (rl + 1) cap) := HF4.out.cell HOO.out (j := 0) rfl
 rw [← hs0] at HX1 HX2 HX4 ⊢
 clear hs3 hs0 hw4
 obtain ⟨w5, hw5⟩ : ∃ w5, w5 = w4.setRow b (pr2 ++ [Value.int .i64 0, .int .u32 0, .int .i64 0, .int .i64 0, Value.slice none 0 0] ++ po2).toArray := ⟨_, rfl⟩
 have HOB := Shut.mk (show Only (· = b) w4 w5 by rw [hw5]; exact only_setRow w4 b (pr2 ++ [Value.int .i64 0, .int .u32 0, .int .i64 0, .int .i64 0, Value.slice none 0 0] ++ po2).toArray)
 have HP5 := Shut.mk (show RowPk T w5 (Value.slice (some AP) rl (cap - 1)) r from by
  rw [hw5]
  have := RowPk.shift (cs := [Value.int .i64 0, .int .u32 0, .int .i64 0, .int .i64 0, Value.slice none 0 0]) HF4.out.pk HGB4.out HPR.out rfl rfl HBG.out.2
  rw [EAP.out, HRLL.out] at this; exact this)
 have HN5 := Shut.mk (show Only (· = b) w w5 from ((((Only.of_quiet HA1.out).then_quiet HB2.out).then_quiet HB4.out).trans HOB.out fun _ _ e => e))
 have HB5 := Shut.mk (HOB.out.at_ HF4.out.blk (fun e => HBG.out.1 e.symm))
 have HX5 := Shut.mk (HOB.out.at_ HX4.out (fun e => by have := HBL.out; have := HS0.out; omega))
 have HY5 := Shut.mk (HOB.out.at_ HY3.out (fun e => by
  have h1 := HBL.out
  have h2 := HS3.out
  have h3 := HA1.out.size
  have h4 := HB2.out.size
  omega))
 have HO5 := Shut.mk (owns_only HO4.out HOB.out (fun k hk e => by
  have h1 := (World.ownsRow.lt HO4.out k hk).1
  have h2 := HBL.out
  have h3 := HA1.out.size
  omega))
 have HTL := Shut.mk (show ∀ k, T k → k < w5.heap.size from fun k hk => Nat.lt_of_lt_of_le (HF4.out.there k hk) HOB.out.size)
 have HI5 := Shut.mk (HIT.out.only HN5.out (fun k hk e => by
  have e2 : AI.block = k := by simpa [Value.ownBlock] using hk
  exact HBB.out (by rw [← HAIB.out, e2, e])))
 have HW5 := Shut.mk hw5
 clear hw5
 go_wp2_with (first
  | (refine wpList_store_row rfl 35 (.tmp 3) (.tmp 10) rfl s3 #[Value.int .i64 pi, .int .u32 pf, .int .i64 pt, .int .i64 pa, Value.slice ay m cy] (by show Value.pointer (some ⟨w2.heap.size, 0, none⟩) = _; rw [HS3.out]) rfl 35 _ HX3.out size5 rfl (pkt_one _ _ _ _ _ _ _) ?_
     rw [show World.setRow (World.alloc w2 _) s3 _ = w4 from HW4.out.symm, ← HS3.out])
  | (refine wpList_store_part rfl 35 (.tmp 16) (.tmp 15) rfl b of (.agg #[Value.int .i64 0, .int .u32 0, .int .i64 0, .int .i64 0, Value.slice none 0 0]) rfl rfl 35 pr2 [Value.int .i64 pi, .int .u32 pf, .int .i64 pt, .int .i64 pa, Value.slice au m cu] [Value.int .i64 0, .int .u32 0, .int .i64 0, .int .i64 0, Value.slice none 0 0] po2 HGB4.out HPR.out rfl rfl size5 (by intro u hu; simp at hu; rcases hu with rfl | rfl | rfl | rfl | rfl <;> rfl) ?_
     rw [show World.setRow w4 b _ = w5 from HW5.out.symm]))
 obtain ⟨w6, hw6⟩ : ∃ w6, w6 = World.drew w5 := ⟨_, rfl⟩
 have HW6 := Shut.mk hw6
 have HD6 := Shut.mk (show Below w5.heap.size w5 w6 by rw [hw6]; exact (Below.refl _ _).drew)
 have HB6 := Shut.mk ((HD6.out.block _ (lt_blk HB5.out)).trans HB5.out)
 have HP6 := Shut.mk (HP5.out.only (S := fun _ => False) (Only.of_quiet HD6.out) (fun _ _ e => e) (fun _ _ e => e))
 have HI6 := Shut.mk (HI5.out.only (S := fun _ => False) (Only.of_quiet HD6.out) (fun _ _ e => e))
 have HX6 := Shut.mk ((HD6.out.block _ (lt_blk HX5.out)).trans HX5.out)
 have HY6 := Shut.mk ((HD6.out.block _ (lt_blk HY5.out)).trans HY5.out)
 have HO6 := Shut.mk (owns_below HO5.out HD6.out)
 clear hw6 hl4
 refine wp_region_D (fun w' => w6 = w') 14 (by kernel_rfl) HW6.out (fun hHeld hC => ?_)
 rw [← HW6.out] at hHeld ⊢
 refine dP 0 hC hHeld ?_; clear hC; intro hC
 refine dP 1 hC hHeld ?_; clear hC; intro hC
 refine dP 2 hC hHeld ?_; clear hC; intro hC
 refine dP 3 hC hHeld ?_; clear hC; intro hC
 refine dP 4 hC hHeld ?_; clear hC; intro hC
 refine dT 5 hC hHeld (fun w hSw => (show w.cell? ⟨g, o, none⟩ = some (Value.slice (some ⟨b, of, none⟩) (rl + 1) cap) from by rw [← hSw]; exact mid_cell HB6.out HOO.out (j := 0) rfl)) ?_; clear hC; intro hC
 refine dP 6 hC hHeld ?_; clear hC; intro hC
 refine dP 7 hC hHeld ?_; clear hC; intro hC
 refine dP 8 hC hHeld ?_; clear hC; intro hC
 refine dP 9 hC hHeld ?_; clear hC; intro hC
 refine dT 10 hC hHeld (fun w hSw => (show w.cell? ⟨g, o + 1, none⟩ = some (Value.slice (some ⟨bi, oi, none⟩) (il + 1) capi) from by rw [← hSw]; exact mid_cell HB6.out HOO.out (j := 1) rfl)) ?_; clear hC; intro hC
 refine dP 11 hC hHeld ?_; clear hC; intro hC
 refine dP 12 hC hHeld ?_; clear hC; intro hC
 refine dP 13 hC hHeld ?_; clear hC; intro hC
 refine wpAnyD_one (i := 14) (by kernel_rfl) rfl hC (fun K hK => ?_)
 clear hC
 refine step_store_fld rfl 40 (.tmp 30) (.tmp 23) rfl g o 0 (Value.slice (some AP) rl (cap - 1)) rfl rfl rfl tq pre (fcR (Value.slice (some ⟨b, of, none⟩) (rl + 1) cap) (Value.slice (some ⟨bi, oi, none⟩) (il + 1) capi) n df c) (fcR (Value.slice (some AP) rl (cap - 1)) (Value.slice (some ⟨bi, oi, none⟩) (il + 1) capi) n df c) post HB6.out HOO.out size1P (by show 0 < 9; omega) rfl ?_
 have HB7 := Shut.mk (setRow_heap w6 g _ (pre ++ fcR (Value.slice (some AP) rl (cap - 1)) (Value.slice (some ⟨bi, oi, none⟩) (il + 1) capi) n df c ++ post).toArray _ (0, 0) HB6.out)
 have HO7 := Shut.mk (only_setRow w6 g (pre ++ fcR (Value.slice (some AP) rl (cap - 1)) (Value.slice (some ⟨bi, oi, none⟩) (il + 1) capi) n df c ++ post).toArray)
 generalize hq : World.setRow w6 g _ = w7 at *
 clear hq
 refine hK.out _ _ (past (by kernel_rfl)) (fun hC => ?_)
 clear hK K
 try simp only [Act.put, sG1, sG2, sG3, sG4, sG5, sG6]
 refine dQ 15 hC ?_; clear hC; intro hC
 refine dQ 16 hC ?_; clear hC; intro hC
 refine wpAnyD_one (i := 17) (by kernel_rfl) rfl hC (fun K hK => ?_)
 clear hC
 refine step_store_fld rfl 91 (.tmp 32) (.tmp 28) rfl g o 1 (Value.slice (some AI) il (capi - 1)) rfl rfl rfl tq pre (fcR (Value.slice (some AP) rl (cap - 1)) (Value.slice (some ⟨bi, oi, none⟩) (il + 1) capi) n df c) (fcR (Value.slice (some AP) rl (cap - 1)) (Value.slice (some AI) il (capi - 1)) n df c) post HB7.out HOO.out size1I (by show 1 < 9; omega) rfl ?_
 have HP7 := Shut.mk (HP6.out.only HO7.out HNP.out (fun k hk e => HGT.out (e ▸ hk)))
 have HI7 := Shut.mk (HI6.out.only HO7.out HNI.out)
 have HF8 : Shut (FlB T (w7.setRow g (pre ++ fcR (Value.slice (some AP) rl (cap - 1)) (Value.slice (some AI) il (capi - 1)) n df c ++ post).toArray) g tq pre post (Value.slice (some AP) rl (cap - 1)) (Value.slice (some AI) il (capi - 1)) r ir n df c) := ⟨FlB.put HB7.out HP7.out HI7.out HPG.out HIG.out HPI.out (fun k hk => Nat.lt_of_lt_of_le ((Nat.lt_of_lt_of_le (HTL.out k hk) HD6.out.size)) HO7.out.size) HGT.out⟩
 have HO8 := Shut.mk (show Only (· = g) w6 (w7.setRow g (pre ++ fcR (Value.slice (some AP) rl (cap - 1)) (Value.slice (some AI) il (capi - 1)) n df c ++ post).toArray) from HO7.out.setRow (g := g) (fun _ => rfl) _)
 generalize hq : World.setRow w7 g _ = w8 at *
 clear hq
 refine hK.out _ _ (past (by kernel_rfl)) (fun hC => ?_)
 clear hK K
 try simp only [Act.put, sG1, sG2, sG3, sG4, sG5, sG6]
 refine wpAnyD_done (by kernel_rfl) ?_ _
 try simp only [Act.put, sG1, sG2, sG3, sG4, sG5, sG6]
 clear hHeld hC
 have HGS0 := Shut.mk (show ¬ s0 = g by have := HGL.out; have := HS0.out; omega)
 have HGS3 := Shut.mk (show ¬ s3 = g by
  have h1 := HGL.out
  have h2 := HS3.out
  have h3 := HA1.out.size
  have h4 := HB2.out.size
  omega)
 have HOG := Shut.mk (show ∀ k, (Value.slice ay m cy).ownBlock = some k → ¬ k = g from fun k hk e => by
  have h1 := (World.ownsRow.lt HO6.out k hk).1
  have h2 := HGL.out
  have h3 := HA1.out.size
  omega)
 have HX8 := Shut.mk (HO8.out.at_ HX6.out HGS0.out)
 have HY8 := Shut.mk (HO8.out.at_ HY6.out HGS3.out)
 have HV8 := Shut.mk (owns_only HO6.out HO8.out HOG.out)
 obtain ⟨w9, hw9⟩ : ∃ w9, w9 = World.drew w8 := ⟨_, rfl⟩
 have HW9 := Shut.mk hw9
 have HD9 := Shut.mk (show Below w8.heap.size w8 w9 by rw [hw9]; exact (Below.refl _ _).drew)
 have HF9 := Shut.mk (HF8.out.quiet HD9.out)
 have HR9 := Shut.mk ((HD9.out.block _ (lt_blk HX8.out)).trans HX8.out)
 have HX9 := Shut.mk ((HD9.out.block _ (lt_blk HY8.out)).trans HY8.out)
 have HV9 := Shut.mk (owns_below HV8.out HD9.out)
 clear hw9
 go_wp2_with (fail)
 refine wp_region_D (fun w' => w9 = w') 10 (by kernel_rfl) HW9.out (fun hHeld hC => ?_)
 rw [← HW9.out] at hHeld ⊢
 refine dP 0 hC hHeld ?_; clear hC; intro hC
 refine dP 1 hC hHeld ?_; clear hC; intro hC
 refine dP 2 hC hHeld ?_; clear hC; intro hC
 refine dT 3 hC hHeld (fun w hSw => (show w.cell? ⟨g, o + 2, none⟩ = some (.int .i64 n) from by rw [← hSw]; exact HF9.out.cell HOO.out (j := 2) rfl)) ?_; clear hC; intro hC
 refine dP 4 hC hHeld ?_; clear hC; intro hC
 refine dT 5 hC hHeld (fun w hSw => (show w.cell? ⟨s3, 4, none⟩ = some (.slice ay m cy) from by rw [← hSw]; have := block_range HX9.out 4 _ rfl; simpa using this)) ?_; clear hC; intro hC
 refine dP 6 hC hHeld ?_; clear hC; intro hC
 refine wpAnyD_pure (i := 7) (v := ?_) rfl hC (by kernel_rfl) (by kernel_rfl) (by kernel_rfl) (by decide) (fun _ _ _ h => h) (Or.inl ⟨by rfl, ?_⟩) (fun _ => hHeld) ?_
 rotate_left
 ·intro w hSw
  have hwr := HWR.out
  clear hSw
  go_simp
  try with_reducible rfl
 try simp only [Act.put, sG1, sG2, sG3, sG4, sG5, sG6]
 clear hC
 intro hC
 refine dP 8 hC hHeld ?_; clear hC; intro hC
 refine dP 9 hC hHeld ?_; clear hC; intro hC
 refine wpAnyD_one (i := 10) (by kernel_rfl) rfl hC (fun K hK => ?_)
 clear hC
 refine step_store_fld rfl 3 (.tmp 42) (.tmp 40) rfl g o 2 (.int .i64 (n - m)) rfl rfl rfl tq pre (fcR (Value.slice (some AP) rl (cap - 1)) (Value.slice (some AI) il (capi - 1)) n df c) (fcR (Value.slice (some AP) rl (cap - 1)) (Value.slice (some AI) il (capi - 1)) (n - m) df c) post HF9.out.blk HOO.out size1i (by show 2 < 9; omega) rfl ?_
 have HFA := Shut.mk (HF9.out.store (n - m) df c)
 have HOA := Shut.mk (only_setRow w9 g (pre ++ fcR (Value.slice (some AP) rl (cap - 1)) (Value.slice (some AI) il (capi - 1)) (n - m) df c ++ post).toArray)
 generalize hq : World.setRow w9 g _ = wA at *
 clear hq
 refine hK.out _ _ (past (by kernel_rfl)) (fun hC => ?_)
 clear hK K
 try simp only [Act.put, sG1, sG2, sG3, sG4, sG5, sG6]
 refine wpAnyD_done (by kernel_rfl) ?_ _
 try simp only [Act.put, sG1, sG2, sG3, sG4, sG5, sG6]
 clear hHeld hC
 have HRA := Shut.mk (HOA.out.at_ HR9.out HGS0.out)
 have HXA := Shut.mk (HOA.out.at_ HX9.out HGS3.out)
 have HVA := Shut.mk (owns_only HV9.out HOA.out HOG.out)
 have HOZ := Shut.mk (only_setRow wA s0 #[Value.int .i64 pi, .int .u32 pf, .int .i64 pt, .int .i64 pa, Value.slice ay m cy])
 have HRZ := Shut.mk (setRow_heap wA s0 _ #[Value.int .i64 pi, .int .u32 pf, .int .i64 pt, .int .i64 pa, Value.slice ay m cy] _ (0, 0) HRA.out)
 have HVZ := Shut.mk (owns_only HVA.out HOZ.out (fun k hk e => by
  have h1 := (World.ownsRow.lt HVA.out k hk).1
  have h2 := HS0.out
  have h3 := lt_blk HX1.out
  omega))
 have HFZ := Shut.mk (HFA.out.only HOZ.out (fun e => HGS0.out e.symm) (fun k hk e => by
  have e2 : AP.block = k := by simpa [Value.ownBlock] using hk
  have h1 := HBL.out
  have h2 := HS0.out
  have h3 := HAPB.out
  omega) (fun k hk e => by
  have e2 : AI.block = k := by simpa [Value.ownBlock] using hk
  have h1 := HBIL.out
  have h2 := HS0.out
  have h3 := HAIB.out
  omega) (fun k hk e => by
  have h1 := HF0.out.there k hk
  have h2 := HS0.out
  omega))
 go_wp2_with (first
  | (refine wpList_load_row rfl 35 (.tmp 3) rfl s3 rfl 35 #[Value.int .i64 pi, .int .u32 pf, .int .i64 pt, .int .i64 pa, Value.slice ay m cy] (0, 0) _ HXA.out Tryz.underlying35 rfl size5 ?_)
  | (refine wpList_store_row rfl 35 (.tmp 2) (.tmp 43) rfl s0 #[Value.int .i64 pi, .int .u32 pf, .int .i64 pt, .int .i64 pa, Value.slice ay m cy] rfl rfl 35 _ HRA.out size5 rfl (pkt_one _ _ _ _ _ _ _) ?_))
 have e0 := HS0.out
 refine bodyPost_ret (v := .agg #[Value.int .i64 pi, .int .u32 pf, .int .i64 pt, .int .i64 pa, Value.slice ay m cy]) (results_cell1 (p := 2) Tryz.results82 _ _ s0 _ _ _ _ rfl HRZ.out Tryz.underlying35 rfl size5) rfl ⟨.slice ay m cy, (Value.slice (some AP) rl (cap - 1)), (Value.slice (some AI) il (capi - 1)), rfl, ?_, HFZ.out, ?_, congrArg some HAPB.out, congrArg some HAIB.out⟩
 ·exact owns_base HVZ.out (HA1.out.size)
 ·refine ⟨?_, fun k hk => .inl ?_, fun k hk => .inl ?_, fun k hk => .inl hk, fun k hk => hk⟩
  ·have o1 : Only (fun k => k = g ∨ (Value.slice (some ⟨b, of, none⟩) (rl + 1) cap).ownBlock = some k ∨ (Value.slice (some ⟨bi, oi, none⟩) (il + 1) capi).ownBlock = some k) w w5 := HN5.out.mono fun k _ e => .inr (.inl (by rw [e]; rfl))
   have o2 := ((o1.then_quiet HD6.out).trans HO8.out fun _ _ e => .inl e).then_quiet HD9.out
   exact (o2.trans HOA.out fun _ _ e => .inl e).trans HOZ.out fun k hk e => by omega
  ·have e2 : AP.block = k := by simpa [Value.ownBlock] using hk
   rw [← e2, HAPB.out]; rfl
  ·have e2 : AI.block = k := by simpa [Value.ownBlock] using hk
   rw [← e2, HAIB.out]; rfl
end Go.Proofs.YtndkmgcmegcieaaGreatDoor
