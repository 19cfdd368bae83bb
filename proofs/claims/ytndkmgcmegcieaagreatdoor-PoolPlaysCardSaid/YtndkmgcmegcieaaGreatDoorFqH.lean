/-
  CONTRACT of (*fq.flow).add.
-/
import Derived.Test.YtndkmgcmegcieaaGreatDoorMgD
namespace Go.Proofs.YtndkmgcmegcieaaGreatDoor
open Go.ChangeShapes Go.WideShapes Go.ChangeAt Go.RowKit Go.Deep
set_option linter.unusedVariables false
set_option linter.unusedSimpArgs false
structure FlS (T : Nat → Prop) (w : World) (g : Nat) (vp vi : Value) (T' : Nat → Prop) (w' : World) (vp' vi' : Value) : Prop where
 only : Only (fun k => k = g ∨ vp.ownBlock = some k ∨ vi.ownBlock = some k) w w'
 fp : ∀ k, vp'.ownBlock = some k → vp.ownBlock = some k ∨ w.heap.size ≤ k
 fi : ∀ k, vi'.ownBlock = some k → vi.ownBlock = some k ∨ w.heap.size ≤ k
 ft : ∀ k, T' k → T k ∨ w.heap.size ≤ k
 tt : ∀ k, T k → T' k
theorem size1P : (Tryz.prog.info? 40).map (·.size) = some 1 := by kernel_rfl
theorem size1I : (Tryz.prog.info? 91).map (·.size) = some 1 := by kernel_rfl
theorem size1i : (Tryz.prog.info? 3).map (·.size) = some 1 := by kernel_rfl
set_option maxRecDepth 100000 in
set_option maxHeartbeats 8000000 in
theorem add_any (T : Nat → Prop) (g o : Nat) (tq : TypeId) (pre post : List Value) (vp vi : Value) (l : List Pk) (il : List It) (n df : Int) (c : Cd) (p : Pk) (A : Option Addr) (m cp : Nat) (w : World)
 (h : FlB T w g tq pre post vp vi l il n df c) (ho : pre.length = o) (hb : RowB .u8 w A m p.body) (hm : m ≤ 1000000000) (hl : l.length ≤ 1000000) (hil : il.length ≤ 1000000) (hn : 0 ≤ n ∧ n ≤ 4503599627370496) :
 Calls Tryz.prog 55 #[.pointer (some ⟨g, o, none⟩), pkV p (.slice A m cp)] w fun e w' => e = .returned (.tuple #[]) ∧ ∃ T' vp' vi', FlB T' w' g tq pre post vp' vi' (l ++ [p]) (il ++ [⟨p.at_, p.body.length⟩]) (n + (p.body.length : Nat)) df c ∧ FlS T w g vp vi T' w' vp' vi' := by
 obtain ⟨pi, pf, pt, pa, pb⟩ := p
 obtain rfl := hb.len
 dsimp only at *
 unfold pkV
 obtain ⟨m, hmm⟩ : ∃ m, pb.length = m := ⟨_, rfl⟩
 have HPL := Shut.mk (show pb.length ≤ maxLen from hb.le)
 have HPW := Shut.mk hb.wf
 have HWR := Shut.mk (show IntKind.i64.wrap (n + (m : Int)) = n + (m : Int) from IntWalk.i64_in _ ⟨by omega, by omega⟩)
 have HM := Shut.mk hm
 have HLL := Shut.mk hl
 have HIL := Shut.mk hil
 have HMM := Shut.mk hmm
 rw [hmm]
 rw [hmm] at HM hb
 have HF1 := Shut.mk (h.quiet ((Below.refl w.heap.size w).alloc (Nat.le_refl _) (Obj.cells #[Value.int .i64 pi, .int .u32 pf, .int .i64 pt, .int .i64 pa, Value.slice A m cp] 35 (0, 0))))
 have HA1 := Shut.mk ((Below.refl w.heap.size w).alloc (Nat.le_refl _) (Obj.cells #[Value.int .i64 pi, .int .u32 pf, .int .i64 pt, .int .i64 pa, Value.slice A m cp] 35 (0, 0)))
 have HBX1 := Shut.mk (MapKept.heap_alloc w (Obj.cells #[Value.int .i64 pi, .int .u32 pf, .int .i64 pt, .int .i64 pa, Value.slice A m cp] 35 (0, 0))).1
 have HRB1 := Shut.mk (hb.below HA1.out)
 have HNE := Shut.mk (show ¬ vp.ownBlock = some w.heap.size from fun e => by have := h.pk.lt _ e; omega)
 have HNI := Shut.mk (show ¬ vi.ownBlock = some w.heap.size from fun e => by have := h.it.lt _ e; omega)
 have HGL := Shut.mk h.lt
 clear hb hm hl hil h hn hmm
 go_enter Tryz.func55, Tryz.ntmps55
 go_wp2_with (fail)
 generalize World.alloc w _ = w1 at *
 obtain ⟨s0, hs0⟩ : ∃ s, s = w.heap.size := ⟨_, rfl⟩
 rw [← hs0] at HBX1 HNE HNI ⊢
 have HS5 := Shut.mk hs0
 clear hs0
 obtain ⟨w5, hw5⟩ : ∃ w5, w5 = World.drew w1 := ⟨_, rfl⟩
 have HW5 := Shut.mk hw5
 have HD5 := Shut.mk (show Below w1.heap.size w1 w5 by rw [hw5]; exact (Below.refl _ _).drew)
 have HF5 := Shut.mk (HF1.out.quiet HD5.out)
 have HBX5 := Shut.mk ((HD5.out.block _ (lt_blk HBX1.out)).trans HBX1.out)
 have HRB5 := Shut.mk (HRB1.out.below HD5.out)
 clear hw5
 refine wp_region_D (fun w' => Only (fun k => vp.ownBlock = some k) w5 w') 11 (by kernel_rfl) (show Only (fun k => vp.ownBlock = some k) w5 (World.drew w1) by rw [HW5.out]; exact Only.refl _ _) (fun hHeld hC => ?_)
 rw [← HW5.out] at hHeld ⊢
 refine dP 0 hC hHeld ?_; clear hC; intro hC
 refine dP 1 hC hHeld ?_; clear hC; intro hC
 refine dP 2 hC hHeld ?_; clear hC; intro hC
 refine dP 3 hC hHeld ?_; clear hC; intro hC
 refine dT 4 hC hHeld (fun w hSw => (show w.cell? ⟨g, o, none⟩ = some vp from hSw.cell (HF5.out.cell ho (j := 0) rfl) (fun e => (HF5.out.pg _ e).1 rfl))) ?_; clear hC; intro hC
 refine wpAnyD_take (i := 5) (v := .agg ([Value.int .i64 pi, .int .u32 pf, .int .i64 pt, .int .i64 pa, Value.slice A m cp]).toArray) 40 rfl (by kernel_rfl) hC (by kernel_rfl) (by kernel_rfl) (by kernel_rfl) (by decide) (fun _ _ _ h => h) (yieldsIf_load_mid (by rfl) 35 (.tmp 3) rfl s0 (0) rfl ([Value.int .i64 pi, .int .u32 pf, .int .i64 pt, .int .i64 pa, Value.slice A m cp]) _ (fun w' hSw => block_range (hSw.at_ HBX5.out HNE.out)) Tryz.underlying35 rfl size5) (fun _ => hHeld) ?_
 try simp only [Act.put, sG1, sG2, sG3, sG4, sG5, sG6]
 clear hC
 intro hC
 refine wpAnyD_one (i := 6) (by kernel_rfl) rfl hC (fun K hK => ?_)
 clear hC
 go_simp
 refine (copied_any ⟨pi, pf, pt, pa, pb⟩ A m cp _ HRB5.out HM.out).mono ?_
 rintro e' w6 ⟨y, rfl, hO, hB⟩
 have HO6 := Shut.mk hO
 have HF6 := Shut.mk (HF5.out.quiet hB)
 have HBX6 := Shut.mk ((hB.block _ (lt_blk HBX5.out)).trans HBX5.out)
 have HZ6 := Shut.mk (show w.heap.size ≤ w6.heap.size from Nat.le_trans HA1.out.size (Nat.le_trans HD5.out.size hB.size))
 unfold pkV
 dsimp only
 have hHeld2 := hHeld.then_quiet hB
 clear hB hO
 clear hHeld
 have hHeld := hHeld2
 clear hHeld2
 refine hK.out _ _ (fun _ => hHeld) (fun hC => ?_)
 clear hK K
 try simp only [Act.put, sG1, sG2, sG3, sG4, sG5, sG6]
 refine wpAnyD_one (i := 7) (by kernel_rfl) rfl hC (fun K hK => ?_)
 clear hC
 go_simp
 have HA7 := Shut.mk ((Below.refl w6.heap.size w6).alloc (Nat.le_refl _) (Obj.cells #[Value.int .i64 pi, .int .u32 pf, .int .i64 pt, .int .i64 pa, y] 35 (0, 0)))
 have HN7 := Shut.mk (block_range (MapKept.heap_alloc w6 (Obj.cells #[Value.int .i64 pi, .int .u32 pf, .int .i64 pt, .int .i64 pa, y] 35 (0, 0))).1)
 have HU7 := Shut.mk (owns_below HO6.out HA7.out)
 generalize World.alloc w6 _ = w7 at *
 obtain ⟨T', hT'⟩ : ∃ T' : Nat → Prop, T' = fun k => T k ∨ y.ownBlock = some k := ⟨_, rfl⟩
 have HTT := Shut.mk (show ∀ k, T k → T' k from fun k hk => by rw [hT']; exact .inl hk)
 have HFT := Shut.mk (show ∀ k, T' k → T k ∨ w5.heap.size ≤ k from fun k hk => by
  rw [hT'] at hk
  rcases hk with h1 | h1
  ·exact .inl h1
  ·exact .inr (World.ownsRow.lt HO6.out k h1).1)
 have HTH := Shut.mk (show ∀ k, T' k → k < w7.heap.size from fun k hk => by
  rw [hT'] at hk
  rcases hk with h1 | h1
  ·exact Nat.lt_of_lt_of_le (HF6.out.there k h1) HA7.out.size
  ·exact (World.ownsRow.lt HU7.out k h1).2)
 have HEL := Shut.mk (show ElK T' w7 y pb from OwnV.el HU7.out HPL.out HPW.out (fun k hk => by rw [hT']; exact .inr hk))
 clear hT'
 have HF7 := Shut.mk (HF6.out.quiet HA7.out)
 have HPD := Shut.mk (show ∀ k, vp.ownBlock = some k → ¬ T' k from fun k hk ht => by
  rcases HFT.out k ht with h1 | h1
  ·exact (HF5.out.pg k hk).2 h1
  ·have := HF5.out.pk.lt k hk; omega)
 have HID := Shut.mk (show ∀ k, vi.ownBlock = some k → ¬ T' k from fun k hk ht => by
  rcases HFT.out k ht with h1 | h1
  ·exact (HF5.out.ig k hk).2 h1
  ·have := HF5.out.it.lt k hk; omega)
 have HGT := Shut.mk (show ¬ T' g from fun ht => by
  rcases HFT.out g ht with h1 | h1
  ·exact HF5.out.gt h1
  ·have := HF5.out.lt; omega)
 have hHeld2 := hHeld.then_quiet HA7.out
 clear hHeld
 have hHeld := hHeld2
 clear hHeld2
 refine hK.out _ _ (fun _ => hHeld) (fun hC => ?_)
 clear hK K
 try simp only [Act.put, sG1, sG2, sG3, sG4, sG5, sG6]
 refine wpAnyD_one (i := 8) (by kernel_rfl) rfl hC (fun K hK => ?_)
 clear hC
 refine step_app_pk (T := T) (T' := T') rfl (.tmp 8) (.tmp 11) rfl vp l rfl HF7.out.pk ⟨pi, pf, pt, pa, pb⟩ y ⟨w6.heap.size, 0, none⟩ 1 rfl (fun j q hq => by rw [Addr.add_mid]; exact HN7.out j q hq) HEL.out HTT.out HPD.out HLL.out ?_
 intro vp' w8 hP8 hO8 hf8
 have HP8 := Shut.mk hP8
 have HI8 := Shut.mk (HF7.out.it.only hO8 (fun k hk e => HF7.out.pi k e hk))
 have HB8 := Shut.mk (hO8.at_ HF7.out.blk (fun e => (HF7.out.pg _ e).1 rfl))
 have HZ8 := Shut.mk hO8.size
 have HFP := Shut.mk hf8
 have hHeld2 := hHeld.trans hO8 (fun _ _ e => e)
 clear hP8 hO8 hf8
 clear hHeld
 have hHeld := hHeld2
 clear hHeld2
 refine hK.out _ _ (fun _ => hHeld) (fun hC => ?_)
 clear hK K
 try simp only [Act.put, sG1, sG2, sG3, sG4, sG5, sG6]
 refine dP 9 hC hHeld ?_; clear hC; intro hC
 refine dP 10 hC hHeld ?_; clear hC; intro hC
 refine wpAnyD_one (i := 11) (by kernel_rfl) rfl hC (fun K hK => ?_)
 clear hC
 refine step_store_fld rfl 40 (.tmp 14) (.tmp 12) rfl g o 0 vp' rfl rfl HP8.out.one tq pre (fcR vp vi n df c) (fcR vp' vi n df c) post HB8.out ho size1P (by show 0 < 9; omega) rfl ?_
 have HPG := Shut.mk (show ∀ k, vp'.ownBlock = some k → k ≠ g ∧ ¬ T' k from fun k hk => by
  rcases HFP.out k hk with h1 | h1
  ·exact ⟨(HF5.out.pg k h1).1, HPD.out k h1⟩
  ·have h2 := HF7.out.lt
   refine ⟨by omega, fun ht => ?_⟩
   have := HTH.out k ht
   omega)
 have HPI := Shut.mk (show ∀ k, vp'.ownBlock = some k → vi.ownBlock ≠ some k from fun k hk e => by
  rcases HFP.out k hk with h1 | h1
  ·exact HF5.out.pi k h1 e
  ·have := HF7.out.it.lt k e
   omega)
 have HO9 := Shut.mk (only_setRow w8 g (pre ++ fcR vp' vi n df c ++ post).toArray)
 have HF9 : Shut (FlB T' (w8.setRow g (pre ++ fcR vp' vi n df c ++ post).toArray) g tq pre post vp' vi (l ++ [⟨pi, pf, pt, pa, pb⟩]) il n df c) := ⟨FlB.put HB8.out HP8.out HI8.out HPG.out (fun k hk => ⟨(HF5.out.ig k hk).1, HID.out k hk⟩) HPI.out (fun k hk => Nat.lt_of_lt_of_le (HTH.out k hk) HZ8.out) HGT.out⟩
 have HOA := Shut.mk (show Only (fun k => k = g ∨ vp.ownBlock = some k ∨ vi.ownBlock = some k) w5 (w8.setRow g (pre ++ fcR vp' vi n df c ++ post).toArray) from ((hHeld.mono (T := fun k => k = g ∨ vp.ownBlock = some k ∨ vi.ownBlock = some k) fun _ _ e => .inr (.inl e)).trans HO9.out fun _ _ e => .inl e))
 have HBX9 := Shut.mk (HOA.out.at_ HBX5.out (fun e => by
  rcases e with e | e | e
  ·have h1 := HGL.out; have h2 := HS5.out; omega
  ·exact HNE.out e
  ·exact HNI.out e))
 generalize hq : World.setRow w8 g _ = w9 at *
 clear hq
 refine hK.out _ _ (past (by kernel_rfl)) (fun hC => ?_)
 clear hK K
 try simp only [Act.put, sG1, sG2, sG3, sG4, sG5, sG6]
 refine wpAnyD_done (by kernel_rfl) ?_ _
 try simp only [Act.put, sG1, sG2, sG3, sG4, sG5, sG6]
 obtain ⟨wA, hwA⟩ : ∃ wA, wA = World.drew w9 := ⟨_, rfl⟩
 have HWA := Shut.mk hwA
 have HDA := Shut.mk (show Below w9.heap.size w9 wA by rw [hwA]; exact (Below.refl _ _).drew)
 have HFA := Shut.mk (HF9.out.quiet HDA.out)
 have HBXA := Shut.mk ((HDA.out.block _ (lt_blk HBX9.out)).trans HBX9.out)
 clear hwA hHeld hC
 go_wp2_with (fail)
 refine wp_region_D (fun w' => Only (fun k => vi.ownBlock = some k) wA w') 15 (by kernel_rfl) (show Only (fun k => vi.ownBlock = some k) wA (World.drew w9) by rw [HWA.out]; exact Only.refl _ _) (fun hHeld hC => ?_)
 rw [← HWA.out] at hHeld ⊢
 refine dP 0 hC hHeld ?_; clear hC; intro hC
 refine dP 1 hC hHeld ?_; clear hC; intro hC
 refine dP 2 hC hHeld ?_; clear hC; intro hC
 refine dP 3 hC hHeld ?_; clear hC; intro hC
 refine dT 4 hC hHeld (fun w hSw => (show w.cell? ⟨g, o + 1, none⟩ = some vi from hSw.cell (HFA.out.cell ho (j := 1) rfl) (fun e => (HFA.out.ig _ e).1 rfl))) ?_; clear hC; intro hC
 refine dP 5 hC hHeld ?_; clear hC; intro hC
 refine dT 6 hC hHeld (fun w hSw => (show w.cell? ⟨s0, 3, none⟩ = some (.int .i64 pa) from by have := block_range (hSw.at_ HBXA.out HNI.out) 3 _ rfl; simpa using this)) ?_; clear hC; intro hC
 refine dP 7 hC hHeld ?_; clear hC; intro hC
 refine dT 8 hC hHeld (fun w hSw => (show w.cell? ⟨s0, 4, none⟩ = some (.slice A m cp) from by have := block_range (hSw.at_ HBXA.out HNI.out) 4 _ rfl; simpa using this)) ?_; clear hC; intro hC
 refine dP 9 hC hHeld ?_; clear hC; intro hC
 refine dP 10 hC hHeld ?_; clear hC; intro hC
 refine wpAnyD_one (i := 11) (by kernel_rfl) rfl hC (fun K hK => ?_)
 clear hC
 go_simp
 have HAB := Shut.mk ((Below.refl wA.heap.size wA).alloc (Nat.le_refl _) (Obj.cells #[.int .i64 pa, .int .i64 m] 103 (0, 0)))
 have HNB := Shut.mk (block_range (MapKept.heap_alloc wA (Obj.cells #[.int .i64 pa, .int .i64 m] 103 (0, 0))).1)
 have HFB := Shut.mk (HFA.out.quiet HAB.out)
 generalize World.alloc wA _ = wB at *
 have hHeld2 := hHeld.then_quiet HAB.out
 clear hHeld
 have hHeld := hHeld2
 clear hHeld2
 refine hK.out _ _ (fun _ => hHeld) (fun hC => ?_)
 clear hK K
 try simp only [Act.put, sG1, sG2, sG3, sG4, sG5, sG6]
 refine wpAnyD_one (i := 12) (by kernel_rfl) rfl hC (fun K hK => ?_)
 clear hC
 refine step_app_it rfl (.tmp 19) (.tmp 26) rfl vi il rfl HFB.out.it ⟨pa, m⟩ ⟨wA.heap.size, 0, none⟩ 1 rfl (fun j q hq => by rw [Addr.add_mid]; exact HNB.out j q hq) HIL.out ?_
 intro vi' wC hP8 hO8 hf8
 have HIC := Shut.mk hP8
 have HPC := Shut.mk (HFB.out.pk.only hO8 (fun k hk e => HFB.out.pi k hk e) (fun k hk e => (HFB.out.ig k e).2 hk))
 have HBC := Shut.mk (hO8.at_ HFB.out.blk (fun e => (HFB.out.ig _ e).1 rfl))
 have HZC := Shut.mk hO8.size
 have HFI := Shut.mk hf8
 have hHeld2 := hHeld.trans hO8 (fun _ _ e => e)
 clear hP8 hO8 hf8
 clear hHeld
 have hHeld := hHeld2
 clear hHeld2
 refine hK.out _ _ (fun _ => hHeld) (fun hC => ?_)
 clear hK K
 try simp only [Act.put, sG1, sG2, sG3, sG4, sG5, sG6]
 refine dP 13 hC hHeld ?_; clear hC; intro hC
 refine dP 14 hC hHeld ?_; clear hC; intro hC
 refine wpAnyD_one (i := 15) (by kernel_rfl) rfl hC (fun K hK => ?_)
 clear hC
 refine step_store_fld rfl 91 (.tmp 29) (.tmp 27) rfl g o 1 vi' rfl rfl HIC.out.one tq pre (fcR vp' vi n df c) (fcR vp' vi' n df c) post HBC.out ho size1I (by show 1 < 9; omega) rfl ?_
 have HIG := Shut.mk (show ∀ k, vi'.ownBlock = some k → k ≠ g ∧ ¬ T' k from fun k hk => by
  rcases HFI.out k hk with h1 | h1
  ·exact HFA.out.ig k h1
  ·have h2 := HFB.out.lt
   refine ⟨by omega, fun ht => ?_⟩
   have := HFB.out.there k ht
   omega)
 have HPI2 := Shut.mk (show ∀ k, vp'.ownBlock = some k → vi'.ownBlock ≠ some k from fun k hk e => by
  rcases HFI.out k e with h1 | h1
  ·exact HFA.out.pi k hk h1
  ·have := HFB.out.pk.lt k hk
   omega)
 have HOD := Shut.mk (only_setRow wC g (pre ++ fcR vp' vi' n df c ++ post).toArray)
 have HFD : Shut (FlB T' (wC.setRow g (pre ++ fcR vp' vi' n df c ++ post).toArray) g tq pre post vp' vi' (l ++ [⟨pi, pf, pt, pa, pb⟩]) (il ++ [⟨pa, m⟩]) n df c) := ⟨FlB.put HBC.out HPC.out HIC.out HFA.out.pg HIG.out HPI2.out (fun k hk => Nat.lt_of_lt_of_le (HFB.out.there k hk) HZC.out) HFA.out.gt⟩
 have HOE := Shut.mk (show Only (fun k => k = g ∨ vi.ownBlock = some k) wA (wC.setRow g (pre ++ fcR vp' vi' n df c ++ post).toArray) from ((hHeld.mono (T := fun k => k = g ∨ vi.ownBlock = some k) fun _ _ e => .inr e).trans HOD.out fun _ _ e => .inl e))
 have HBXD := Shut.mk (HOE.out.at_ HBXA.out (fun e => by
  rcases e with e | e
  ·have h1 := HGL.out; have h2 := HS5.out; omega
  ·exact HNI.out e))
 generalize hq : World.setRow wC g _ = wD at *
 clear hq
 refine hK.out _ _ (past (by kernel_rfl)) (fun hC => ?_)
 clear hK K
 try simp only [Act.put, sG1, sG2, sG3, sG4, sG5, sG6]
 refine wpAnyD_done (by kernel_rfl) ?_ _
 try simp only [Act.put, sG1, sG2, sG3, sG4, sG5, sG6]
 obtain ⟨wE, hwE⟩ : ∃ wE, wE = World.drew wD := ⟨_, rfl⟩
 have HWE := Shut.mk hwE
 have HDE := Shut.mk (show Below wD.heap.size wD wE by rw [hwE]; exact (Below.refl _ _).drew)
 have HFE := Shut.mk (HFD.out.quiet HDE.out)
 have HBXE := Shut.mk ((HDE.out.block _ (lt_blk HBXD.out)).trans HBXD.out)
 clear hwE hHeld hC
 go_wp2_with (fail)
 refine wp_region_D (fun w' => wE = w') 10 (by kernel_rfl) HWE.out (fun hHeld hC => ?_)
 rw [← HWE.out] at hHeld ⊢
 refine dP 0 hC hHeld ?_; clear hC; intro hC
 refine dP 1 hC hHeld ?_; clear hC; intro hC
 refine dP 2 hC hHeld ?_; clear hC; intro hC
 refine dT 3 hC hHeld (fun w hSw => (show w.cell? ⟨g, o + 2, none⟩ = some (.int .i64 n) from by rw [← hSw]; exact HFE.out.cell ho (j := 2) rfl)) ?_; clear hC; intro hC
 refine dP 4 hC hHeld ?_; clear hC; intro hC
 refine dT 5 hC hHeld (fun w hSw => (show w.cell? ⟨s0, 4, none⟩ = some (.slice A m cp) from by rw [← hSw]; have := block_range HBXE.out 4 _ rfl; simpa using this)) ?_; clear hC; intro hC
 refine dP 6 hC hHeld ?_; clear hC; intro hC
 refine wpAnyD_pure (i := 7) (v := ?_) rfl hC (by kernel_rfl) (by kernel_rfl) (by kernel_rfl) (by decide) (fun _ _ _ h => h) (Or.inl ⟨by rfl, ?_⟩) (fun _ => hHeld) ?_
 rotate_left
 ·intro w hSw
  have hwr := HWR.out
  clear hSw
  go_simp
  try with_reducible rfl
 try simp only [Act.put, sG1, sG2, sG3, sG4, sG5, sG6]
 clear hC
 intro hC
 refine dP 8 hC hHeld ?_; clear hC; intro hC
 refine dP 9 hC hHeld ?_; clear hC; intro hC
 refine wpAnyD_one (i := 10) (by kernel_rfl) rfl hC (fun K hK => ?_)
 clear hC
 refine step_store_fld rfl 3 (.tmp 39) (.tmp 37) rfl g o 2 (.int .i64 (n + m)) rfl rfl rfl tq pre (fcR vp' vi' n df c) (fcR vp' vi' (n + m) df c) post HFE.out.blk ho size1i (by show 2 < 9; omega) rfl ?_
 have HFZ := Shut.mk (HFE.out.store (n + m) df c)
 have HOZ := Shut.mk (only_setRow wE g (pre ++ fcR vp' vi' (n + m) df c ++ post).toArray)
 generalize hq : World.setRow wE g _ = wZ at *
 clear hq
 refine hK.out _ _ (past (by kernel_rfl)) (fun hC => ?_)
 clear hK K
 try simp only [Act.put, sG1, sG2, sG3, sG4, sG5, sG6]
 refine wpAnyD_done (by kernel_rfl) ?_ _
 try simp only [Act.put, sG1, sG2, sG3, sG4, sG5, sG6]
 clear hHeld hC
 go_end0
 refine ⟨rfl, T', vp', vi', HFZ.out, ?_⟩
 have o1 : Only (fun k => k = g ∨ vp.ownBlock = some k ∨ vi.ownBlock = some k) w w9 := ((Only.of_quiet HA1.out).then_quiet HD5.out).trans HOA.out fun _ _ e => e
 have o2 : Only (fun k => k = g ∨ vp.ownBlock = some k ∨ vi.ownBlock = some k) w wD := (o1.then_quiet HDA.out).trans HOE.out fun _ _ e => e.elim .inl fun e => .inr (.inr e)
 have z7 : w.heap.size ≤ w7.heap.size := Nat.le_trans HZ6.out HA7.out.size
 refine ⟨(o2.then_quiet HDE.out).trans HOZ.out fun _ _ e => .inl e, fun k hk => ?_, fun k hk => ?_, fun k hk => ?_, HTT.out⟩
 ·rcases HFP.out k hk with h1 | h1
  ·exact .inl h1
  ·exact .inr (by omega)
 ·rcases HFI.out k hk with h1 | h1
  ·exact .inl h1
  ·have := (o1.then_quiet HDA.out).size
   have := HAB.out.size
   exact .inr (by omega)
 ·rcases HFT.out k hk with h1 | h1
  ·exact .inl h1
  ·have := HA1.out.size
   have := HD5.out.size
   exact .inr (by omega)
end Go.Proofs.YtndkmgcmegcieaaGreatDoor
