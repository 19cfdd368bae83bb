/-
  THE REFERENCE's QUEUE: Take.
-/
import Derived.Test.YtndkmgcmegcieaaGreatDoorFqRk
import Derived.Test.YtndkmgcmegcieaaGreatDoorCodG
namespace Go.Proofs.YtndkmgcmegcieaaGreatDoor
open Go.ChangeShapes Go.WideShapes Go.ChangeAt Go.RowKit Go.Deep
set_option linter.unusedVariables false
set_option linter.unusedSimpArgs false
theorem setF_twice (f : Nat → Fl) (b : Nat) (y z : Fl) : setF (setF f b y) b z = setF f b z := by
 funext k
 by_cases e : k = b
 ·subst e; rw [setF_same, setF_same]
 ·rw [setF_other _ _ e, setF_other _ _ e, setF_other _ _ e]
set_option maxRecDepth 100000 in
set_option maxHeartbeats 8000000 in
theorem reftake_any (bk : Int → Nat) (hbk : ∀ f, bk f < 16) (T : Nat → Prop) (w : World) (x : Rq) (V : Nat → Value) (q : Qu) (h : IsRq T w x V q) (hI : InvQ bk q) (hF : FewC q) (t : Int) (ht0 : 0 ≤ t) (htM : t + 1073741824 ≤ 4503599627370496)
 (r : Option Pk) (ds : List Pk) (q' : Qu) (hT : Takes ⟨t, clampR x.tg 0 1073741824, clampR x.iv 0 1073741824⟩ q [] r ds q') :
 Calls Tryz.prog 42 #[.pointer (some ⟨x.g, 0, none⟩), .int .i64 t] w fun e w' => ∃ V' late v, IsRq T w' x V' q' ∧ RqS T w x V T w' V' ∧ OwnP T w' w.heap.size late ds ∧
  ((r = none ∧ v = .slice none 0 0 ∧ e = .returned (.tuple #[pkV pk00.1 v, late, .bool false])) ∨ ∃ p, r = some p ∧ e = .returned (.tuple #[pkV p v, late, .bool true]) ∧ ElK T w' v p.body) := by
 have HA1 := Shut.mk ((Below.refl w.heap.size w).alloc (Nat.le_refl _) (Obj.cells #[Value.int .i64 0, .int .u32 0, .int .i64 0, .int .i64 0, Value.slice none 0 0] 35 (0, 0)))
 have HX1 := Shut.mk (MapKept.heap_alloc w (Obj.cells #[Value.int .i64 0, .int .u32 0, .int .i64 0, .int .i64 0, Value.slice none 0 0] 35 (0, 0))).1
 have HQ1 := Shut.mk (h.below HA1.out)
 have HLT := Shut.mk (show ∀ k, FootR x V k → k < w.heap.size from fun k hk => h.lts hk)
 have HTH := Shut.mk h.there
 have HI0 := Shut.mk hI
 have HF0 := Shut.mk hF
 have HT0 := Shut.mk hT
 have HTL := Shut.mk (takes_len hT hI hbk hF)
 have HBK := Shut.mk hbk
 have HT1 := Shut.mk ht0
 have HT2 := Shut.mk htM
 clear h hI hF hT hbk ht0 htM
 go_enter Tryz.func42, Tryz.ntmps42
 go_wp2_with (fail)
 obtain ⟨s4, hs4⟩ : ∃ s, s = w.heap.size := ⟨_, rfl⟩
 have HS4 := Shut.mk hs4
 rw [← hs4] at HX1 HLT ⊢
 clear hs4
 generalize World.alloc w _ = w1 at *
 have HR0 := Shut.mk (show TakR T w x V s4 (.slice none 0 0) w1 q V [] from ⟨HQ1.out, RqS.from_ HA1.out RqS.refl, OwnK.nil _ _ _ _, fun k hk => ⟨by have := HLT.out k hk; omega, fun e => by cases e⟩, HX1.out, HS4.out, fun j hj => by have := HTH.out j hj; have := HS4.out; omega⟩)
 clear HX1 HQ1 HA1 HLT
 go_loopg [7, 8, 9, 10, 11, 12, 13, 14, 15, 16] (mu q + 1) (fun k u _ _ _ _ _ _ _ _ _ wr => ∃ (q1 : Qu) (V1 : Nat → Value) (ds1 : List Pk), Shut (TakR T w x V s4 u wr q1 V1 ds1) ∧ InvQ bk q1 ∧ FewC q1 ∧ Takes ⟨t, clampR x.tg 0 1073741824, clampR x.iv 0 1073741824⟩ q1 ds1 r ds q' ∧ mu q1 < k)
 case atStart => exact ⟨q, V, [], HR0, HI0.out, HF0.out, HT0.out, Nat.lt_succ_self _⟩
 case round =>
  clear HR0 HI0 HF0 HT0
  obtain ⟨q1, V1, ds1, HS, hI, hF, hT, hmu⟩ := hrel
  have HMUL := Shut.mk hmu
  have HI := Shut.mk hI
  have HFE := Shut.mk hF
  have HT := Shut.mk hT
  have HLL := Shut.mk (lists_of hI)
  clear hI hF hT hmu
  obtain ⟨A5, c5, h5v, h5r, -⟩ := HS.out.is.fr.row (by rw [natsI_len]; have := HLL.out.1; unfold maxLen; omega) (nats_wf (HLL.out.2.2.1))
  obtain ⟨A6, c6, h6v, h6r, -⟩ := HS.out.is.el.row (by rw [natsI_len]; have := HLL.out.2.1; unfold maxLen; omega) (nats_wf (HLL.out.2.2.2))
  have hc5 := HS.out.is.two.1
  have hc6 := HS.out.is.two.2
  rw [h5v, natsI_len] at hc5
  rw [h6v, natsI_len] at hc6
  cases hf : firstQ q1 with
  | none =>
   have hfe := firstQ_none hf
   have HNO := Shut.mk (show r = none ∧ ds = ds1 ∧ q' = q1 from by
    rcases takes_inv HT.out with ⟨h1, e1, e2, e3⟩ | ⟨b, nw, h1, -⟩ | ⟨b, nw, c, n, h1, -⟩ | ⟨b, nw, c, n, h1, -⟩
    ·exact ⟨e1, e2, e3⟩
    ·rw [hf] at h1; cases h1
    ·rw [hf] at h1; cases h1
    ·rw [hf] at h1; cases h1)
   have hl1 : q1.fresh.length = 0 := by rw [hfe.1]; rfl
   have hl2 : q1.elder.length = 0 := by rw [hfe.2]; rfl
   rw [hl1] at hc5
   rw [hl2] at hc6
   clear hf hfe hl1 hl2
   go_wp2_with (fail)
   go_quiet (fail)
   have HSN := Shut.mk (HS.out.quiet (below_drewN (Below.refl wr.heap.size wr) nq))
   generalize World.drewN wr nq = wq at *
   have HZ := Shut.mk (setRow_heap wq s4 _ #[Value.int .i64 0, .int .u32 0, .int .i64 0, .int .i64 0, Value.slice none 0 0] _ (0, 0) HSN.out.res)
   have HOZ := Shut.mk (only_setRow wq s4 #[Value.int .i64 0, .int .u32 0, .int .i64 0, .int .i64 0, Value.slice none 0 0])
   go_wp2_with (refine wpList_store_row rfl 35 (.tmp 4) (.tmp 209) rfl s4 #[Value.int .i64 0, .int .u32 0, .int .i64 0, .int .i64 0, Value.slice none 0 0] rfl rfl 35 _ HSN.out.res size5 rfl (pkt_one _ _ _ _ _ _ _) ?_)
   refine bodyPost_ret (v := .tuple #[.agg #[Value.int .i64 0, .int .u32 0, .int .i64 0, .int .i64 0, Value.slice none 0 0], u7, .bool false]) (results_ctt (p := 4) (q := 5) (r := 6) Tryz.results42 _ _ s4 _ _ _ _ _ _ rfl rfl rfl HZ.out Tryz.underlying35 rfl size5) rfl ⟨V1, u7, .slice none 0 0, ?_, ?_, ?_, .inl ⟨HNO.out.1, rfl, rfl⟩⟩
   ·rw [HNO.out.2.2]
    exact HSN.out.is.only HOZ.out (fun j hj e => (HSN.out.ap j hj).1 e) (fun j hj e => by have := HSN.out.old j hj; omega)
   ·exact HSN.out.st.over HOZ.out fun j e => by have := HSN.out.sw; omega
   ·rw [HNO.out.2.1]
    exact OwnP.base (OwnK.only HSN.out.own HOZ.out (fun j hj e => by obtain ⟨l', ho, -⟩ := HSN.out.own; have := (World.ownsRow.lt ho.1 j hj).1; omega) (fun j hj e => by have := HSN.out.old j hj; omega)) (by have := HSN.out.sw; omega)
  | some bn =>
   obtain ⟨b, nw⟩ := bn
   have hbm := firstQ_mem hf
   have HB16 := Shut.mk (HI.out.lt b hbm)
   have HFQ := Shut.mk hf
   have HNW := Shut.mk (show (nw = true ∧ ∃ r0, q1.fresh = b :: r0) ∨ (nw = false ∧ q1.fresh = [] ∧ ∃ r0, q1.elder = b :: r0) from by
    cases nw with
    | true => exact .inl ⟨rfl, firstQ_new hf⟩
    | false => exact .inr ⟨rfl, firstQ_old hf⟩)
   have tn1 : decide ((0 : Int) < (q1.fresh.length : Int)) = nw := by
    rcases HNW.out with ⟨rfl, r0, e⟩ | ⟨rfl, e, -⟩ <;> rw [e] <;> simp
   have tn2 : decide (0 < q1.fresh.length) = nw := by
    rcases HNW.out with ⟨rfl, r0, e⟩ | ⟨rfl, e, -⟩ <;> rw [e] <;> simp
   have hlp : 0 < q1.fresh.length + q1.elder.length := by
    have h1 : 0 < (q1.fresh ++ q1.elder).length := List.length_pos_iff.2 (fun e => by rw [e] at hbm; cases hbm)
    rw [List.length_append] at h1
    exact h1
   clear hbm hf
   obtain ⟨s2, hs2⟩ : ∃ s2, s2 = q1.fresh.length + q1.elder.length := ⟨_, rfl⟩
   have y2 : IntKind.i64.wrap ((q1.fresh.length : Int) + (q1.elder.length : Int)) = (s2 : Int) := by rw [IntWalk.i64_in _ ⟨by omega, by have := HLL.out; omega⟩]; omega
   have t1 : decide ((0 : Int) < (s2 : Int)) = true := by simp; omega
   have t2 : decide (0 < s2) = true := by simp; omega
   clear hs2 hlp
   go_wp2_with (fail)
   go_quiet (fail)
   have HSN := Shut.mk (HS.out.quiet (below_drewN (Below.refl wr.heap.size wr) nq))
   have HR5 := Shut.mk (h5r.drewN nq)
   have HR6 := Shut.mk (h6r.drewN nq)
   generalize World.drewN wr nq = wq at *
   clear HS hc5 hc6 h5r h6r
   have hc5 := HSN.out.is.two.1
   have hc6 := HSN.out.is.two.2
   rw [h5v, natsI_len] at hc5
   rw [h6v, natsI_len] at hc6
   go_upto_if 35 with (fail)
   go_cut [9] from 36 to 47 (fun s9 wx => s9 = .int .i64 (b : Nat) ∧ wq = wx)
   case first =>
    rcases HNW.out with ⟨hnw, r0, hfr⟩ | ⟨hnw, hfr, r0, hel⟩
    ·subst hnw
     obtain ⟨g0, o0, hA, hcb⟩ := HR5.out.el 0 (by rw [natsI_len, hfr]; simp)
     rw [show (natsI q1.fresh).getD 0 0 = (b : Int) from by rw [hfr]; rfl, Nat.add_zero] at hcb
     rw [hA] at hc5
     have hlf : 0 < q1.fresh.length := by rw [hfr]; simp
     have hlf' : (0 : Int) < (q1.fresh.length : Int) := by omega
     clear hfr hA
     go_wp2_with (fail)
     go_meet
     exact ⟨rfl, rfl⟩
    ·subst hnw
     obtain ⟨g0, o0, hA, hcb⟩ := HR6.out.el 0 (by rw [natsI_len, hel]; simp)
     rw [show (natsI q1.elder).getD 0 0 = (b : Int) from by rw [hel]; rfl, Nat.add_zero] at hcb
     rw [hA] at hc6
     have hlf : 0 < q1.elder.length := by rw [hel]; simp
     have hlf' : (0 : Int) < (q1.elder.length : Int) := by omega
     clear hfr hel hA
     go_wp2_with (fail)
     go_meet
     exact ⟨rfl, rfl⟩
   case rest =>
    obtain ⟨rfl, rfl⟩ := hcut
    clear HR5 HR6 tn1 tn2
    have hb16 := HB16.out
    have hbi : (b : Int) < 16 := by omega
    have hcase : ((q1.fl b).df ≤ 0 ∧ Takes ⟨t, clampR x.tg 0 1073741824, clampR x.iv 0 1073741824⟩ (turnQ q1 b) ds1 r ds q') ∨ (0 < (q1.fl b).df ∧ ∃ c n i, pullF ⟨t, clampR x.tg 0 1073741824, clampR x.iv 0 1073741824⟩ (q1.fl b) = (c, n, i) ∧
     ((i = false ∧ Takes ⟨t, clampR x.tg 0 1073741824, clampR x.iv 0 1073741824⟩ (goneQ q1 b nw c n) (ds1 ++ (q1.fl b).pk.take n) r ds q') ∨ (i = true ∧ r = (q1.fl b).pk[n]? ∧ ds = ds1 ++ (q1.fl b).pk.take n ∧ q' = tookQ q1 b c n))) := by
     rcases takes_inv HT.out with ⟨h1, -⟩ | ⟨b', nw', h1, hd, ht⟩ | ⟨b', nw', c, n, h1, hd, hp, ht⟩ | ⟨b', nw', c, n, h1, hd, hp, e1, e2, e3⟩
     ·rw [HFQ.out] at h1; cases h1
     ·rw [HFQ.out] at h1; cases h1; exact .inl ⟨hd, ht⟩
     ·rw [HFQ.out] at h1; cases h1; exact .inr ⟨hd, c, n, false, hp, .inl ⟨rfl, ht⟩⟩
     ·rw [HFQ.out] at h1; cases h1; exact .inr ⟨hd, c, n, true, hp, .inr ⟨rfl, e1, e2, e3⟩⟩
    have hdf : wq.cell? ⟨x.g, 3 + b * 7 + 1, none⟩ = some (.int .i64 (q1.fl b).df) := by rw [Nat.add_assoc]; exact HSN.out.is.fl hb16 (.int .i64 (q1.fl b).df) (j := 1) rfl
    rcases hcase with ⟨hd, ht⟩ | ⟨hd, c, n, i, hp, hend⟩
    ·skip
     have hdd : decide ((q1.fl b).df ≤ 0) = true := by simpa using hd
     have hdd' := HFE.out.df b hb16
     have HDD := Shut.mk hd
     have HTT := Shut.mk ht
     clear hd ht
     obtain ⟨d3, hd3⟩ : ∃ d3, d3 = (q1.fl b).df + 300 := ⟨_, rfl⟩
     have y5 : IntKind.i64.wrap ((q1.fl b).df + 300) = d3 := by rw [IntWalk.i64_in _ ⟨by have := hdd'; omega, by have := hdd'; omega⟩, hd3]
     have HD3 := Shut.mk hd3
     clear hd3 hdd'
     have HNW := Shut.mk (rq_set x V1 q1.fl HB16.out (show 1 < 7 by decide) (.int .i64 d3) (V1 b) ⟨(q1.fl b).pk, d3, (q1.fl b).cd⟩ rfl)
     rw [updF_id] at HNW
     obtain ⟨wa, hwa⟩ : ∃ wz, wz = wq.setRow x.g (rqC x V1 (setF q1.fl b ⟨(q1.fl b).pk, d3, (q1.fl b).cd⟩)).toArray := ⟨_, rfl⟩
     have HWA := Shut.mk hwa.symm
     obtain ⟨hQA, hSA⟩ := HSN.out.is.num (w' := wa) (q' := ⟨setF q1.fl b ⟨(q1.fl b).pk, d3, (q1.fl b).cd⟩, q1.fresh, q1.elder⟩) (by rw [hwa]; exact only_setRow _ _ _) (by rw [hwa]; exact setRow_heap wq x.g _ _ _ (0, 0) HSN.out.is.blk) (fun c _ => by
      dsimp only
      by_cases e : c = b
      ·subst e; rw [setF_same]
      ·rw [setF_other _ _ e]) rfl rfl
     have HSA := Shut.mk (HSN.out.step hSA hQA)
     clear hQA hSA hwa
     obtain ⟨qa, hqa⟩ : ∃ qa : Qu, qa = ⟨setF q1.fl b ⟨(q1.fl b).pk, d3, (q1.fl b).cd⟩, q1.fresh, q1.elder⟩ := ⟨_, rfl⟩
     rw [← hqa] at HSA
     have HQAE := Shut.mk hqa
     have HFA := Shut.mk (show qa.fresh = q1.fresh ∧ qa.elder = q1.elder by rw [hqa]; exact ⟨rfl, rfl⟩)
     clear hqa
     have hc5 := HSA.out.is.two.1
     rw [h5v, natsI_len] at hc5
     go_wp2_with (refine wpList_store_into rfl 3 (.tmp 65) (.tmp 63) rfl x.g (3 + (b * 7 + 1)) (.int .i64 d3) rfl rfl rfl 90 _ (rqC x V1 (setF q1.fl b ⟨(q1.fl b).pk, d3, (q1.fl b).cd⟩)).toArray HSN.out.is.blk sizeI (by rw [rq_size]; have := HB16.out; omega) HNW.out ?_; rw [HWA.out])
     have HR5a := Shut.mk (show RowB .i64 wa A5 q1.fresh.length (natsI q1.fresh) from by
      obtain ⟨A, c, e1, e2, -⟩ := HSA.out.is.fr.row (by rw [natsI_len, HFA.out.1]; have := HLL.out.1; unfold maxLen; omega) (nats_wf (by rw [HFA.out.1]; exact HLL.out.2.2.1))
      rw [HFA.out.1] at e1 e2
      rw [h5v] at e1
      injection e1 with e3 e4 e5
      rw [natsI_len] at e2
      rw [e3]
      exact e2)
     refine (del_any A5 q1.fresh.length c5 (natsI q1.fresh) (b : Int) wa HR5a.out (by have := HLL.out.1; omega)).mono ?_
     rintro e' wb ⟨u11, rfl, hu, hbl⟩
     rw [nats_del] at hu
     have HN1 := Shut.mk (owns_onecell hu.1)
     have hnf := HSA.out.is.new_fr hbl (l := delL qa.fresh b) (u := u11) (by rw [HFA.out.1]; exact hu)
     obtain ⟨V2, hV2⟩ : ∃ V2, V2 = updF V1 16 u11 := ⟨_, rfl⟩
     rw [← hV2] at hnf
     obtain ⟨wB, hwB⟩ : ∃ wz, wz = wb.setRow x.g (rqC x V2 qa.fl).toArray := ⟨_, rfl⟩
     rw [← hwB] at hnf
     have HWB := Shut.mk hwB.symm
     have HBLB := Shut.mk ((hbl.block _ (lt_blk HSA.out.is.blk)).trans HSA.out.is.blk)
     have HNW2 := Shut.mk (show (rqC x V1 qa.fl).toArray.setIfInBounds 115 u11 = (rqC x V2 qa.fl).toArray by rw [hV2]; exact rq_set16 x V1 qa.fl u11)
     have HV17 := Shut.mk (show V2 17 = V1 17 by rw [hV2, updF_other _ _ (by decide)])
     have HSB := Shut.mk (HSA.out.step hnf.2 hnf.1)
     clear hnf hwB hV2 hu hbl
     obtain ⟨qb, hqb⟩ : ∃ qb : Qu, qb = ⟨qa.fl, delL qa.fresh b, qa.elder⟩ := ⟨_, rfl⟩
     rw [← hqb] at HSB
     have HQBE := Shut.mk hqb
     have HFB := Shut.mk (show qb.fl = qa.fl ∧ qb.elder = q1.elder by rw [hqb]; exact ⟨rfl, HFA.out.2⟩)
     clear hqb
     have hc6b := HSB.out.is.two.2
     rw [HV17.out, h6v, natsI_len] at hc6b
     go_wp2_with (refine wpList_store_into rfl 88 (.tmp 74) (.tmp 72) rfl x.g 115 u11 rfl rfl HN1.out 90 _ (rqC x V2 qa.fl).toArray HBLB.out sizeIs (by rw [rq_size]; omega) HNW2.out ?_; rw [HWB.out])
     have HR6a := Shut.mk (show RowB .i64 wB A6 q1.elder.length (natsI q1.elder) from by
      obtain ⟨A, c, e1, e2, -⟩ := HSB.out.is.el.row (by rw [natsI_len, HFB.out.2]; have := HLL.out.2.1; unfold maxLen; omega) (nats_wf (by rw [HFB.out.2]; exact HLL.out.2.2.2))
      rw [HFB.out.2] at e1 e2
      rw [HV17.out, h6v] at e1
      injection e1 with e3 e4 e5
      rw [natsI_len] at e2
      rw [e3]
      exact e2)
     refine (del_any A6 q1.elder.length c6 (natsI q1.elder) (b : Int) wB HR6a.out (by have := HLL.out.2.1; omega)).mono ?_
     rintro e' wc ⟨u12, rfl, hu, hbl⟩
     rw [nats_del] at hu
     have HU12 := Shut.mk hu
     have HBC := Shut.mk hbl
     have HA1 := Shut.mk ((Below.refl wc.heap.size wc).alloc (Nat.le_refl _) (.cells #[.int .i64 (b : Nat)] 3 (0, 0)))
     have HC1 := Shut.mk (show (wc.alloc (.cells #[.int .i64 (b : Nat)] 3 (0, 0))).cell? ⟨wc.heap.size, 0, none⟩ = some (.int .i64 (b : Nat)) by have := cell_one_new wc (.int .i64 (b : Nat)) 3 0 _ rfl; rwa [Addr.add_mid] at this)
     have HDL := Shut.mk (show (natsI (delL q1.elder b)).length ≤ 1000000 from by
      rw [natsI_len]
      have h1 : (delL q1.elder b).length ≤ q1.elder.length := List.length_filter_le _ _
      have h2 := HLL.out.2.1
      omega)
     clear hu hbl
     go_wp2_with (first
      | (refine app_n rfl (.tmp 81) (.tmp 83) rfl wB.heap.size _ _ rfl (OwnS.below HU12.out HA1.out) (b : Nat) ⟨wc.heap.size, 0, none⟩ 1 rfl HC1.out HDL.out (Nat.le_trans HBC.out.size HA1.out.size) ?_
         intro vE wE HE HBE HYE HZE
         have HBF := Shut.mk ((HBC.out.trans (HA1.out.mono HBC.out.size)).trans HBE.out)
         have HN2 := Shut.mk (owns_onecell HE.out.1)
         have hnf := HSB.out.is.new_el HBF.out (l := delL q1.elder b ++ [b]) (u := vE) (by rw [nats_snoc]; exact HE.out)
         obtain ⟨V3, hV3⟩ : ∃ V3, V3 = updF V2 17 vE := ⟨_, rfl⟩
         rw [← hV3] at hnf
         obtain ⟨wG, hwG⟩ : ∃ wz, wz = wE.setRow x.g (rqC x V3 qb.fl).toArray := ⟨_, rfl⟩
         rw [← hwG] at hnf
         have HWG := Shut.mk hwG.symm
         have HBLG := Shut.mk ((HBF.out.block _ (lt_blk HSB.out.is.blk)).trans HSB.out.is.blk)
         have HNW3 := Shut.mk (show (rqC x V2 qb.fl).toArray.setIfInBounds 116 vE = (rqC x V3 qb.fl).toArray by rw [hV3]; exact rq_set17 x V2 qb.fl vE)
         have HSG := Shut.mk (HSB.out.step hnf.2 hnf.1)
         clear hnf hwG hV3)
      | (refine wpList_store_into rfl 88 (.tmp 86) (.tmp 84) rfl x.g 116 vE rfl rfl HN2.out 90 _ (rqC x V3 qb.fl).toArray HBLG.out sizeIs (by rw [rq_size]; omega) HNW3.out ?_; rw [HWG.out]))
     go_roundg (mu q1)
     case measure => exact HMUL.out
     case rel =>
      refine ⟨turnQ q1 b, V3, ds1, ?_, inv_turn HI.out (firstQ_mem HFQ.out), few_turn HFE.out HB16.out HDD.out, HTT.out, mu_turn HI.out HFQ.out HDD.out⟩
      have h1 := HSG.out
      rw [HQBE.out] at h1
      dsimp only at h1
      rw [HQAE.out] at h1
      dsimp only at h1
      rw [HD3.out] at h1
      exact ⟨h1⟩
    ·have hdd : decide ((q1.fl b).df ≤ 0) = false := by simp; omega
     have HDD := Shut.mk hd
     have HEND := Shut.mk hend
     have HPP := Shut.mk hp
     clear hd hend hp
     go_wp2_with (fail)
     go_cut [11, 12, 13] from 87 to 111 (fun s11 s12 s13 wx => ∃ k, s11 = .pointer (some ⟨k, 0, none⟩) ∧ s12 = .int .i64 (n : Nat) ∧ s13 = .bool i ∧ wx.heap[k]? = some (.cells ([] ++ [Value.int .i64 c.first, .int .i64 c.drop, .int .u32 (c.count : Nat), .int .u32 (c.last : Nat), .bool c.on] ++ []).toArray 84 (0, 0)) ∧ Below wq.heap.size wq wx ∧ wq.heap.size ≤ k)
     case first =>
      obtain ⟨w5, hw5⟩ : ∃ w5, w5 = World.drew wq := ⟨_, rfl⟩
      have HW5 := Shut.mk hw5
      have HD5 := Shut.mk (show Below wq.heap.size wq w5 by rw [hw5]; exact (Below.refl _ _).drew)
      have HS5 := Shut.mk (HSN.out.quiet HD5.out)
      obtain ⟨Ap, cp, -, hcp, hrp, -⟩ := HS5.out.is.flow (show FewQ q1 from ⟨fun k hk => by have := HFE.out.len k hk; omega, fun k hk p hp => (HFE.out.el k hk p hp).2.2⟩) HB16.out
      have HCP := Shut.mk hcp
      have HRP := Shut.mk hrp
      have HCD := Shut.mk (show w5.rangeAt x.g (3 + b * 7 + 2) [Value.int .i64 (q1.fl b).cd.first, .int .i64 (q1.fl b).cd.drop, .int .u32 ((q1.fl b).cd.count : Nat), .int .u32 ((q1.fl b).cd.last : Nat), .bool (q1.fl b).cd.on] from fun j v hj => by
       have hj5 : j < 5 := (List.getElem?_eq_some_iff.1 hj).1
       have h1 := HS5.out.is.fl HB16.out (j := 2 + j) v (by
        match j, hj with
        | 0, hj => exact hj
        | 1, hj => exact hj
        | 2, hj => exact hj
        | 3, hj => exact hj
        | 4, hj => exact hj)
       rw [← Nat.add_assoc, ← Nat.add_assoc] at h1
       exact h1)
      have HTB := Shut.mk (show 0 ≤ t ∧ t ≤ 4503599627370496 from ⟨HT1.out, by have := HT2.out; omega⟩)
      have HBY := Shut.mk (show 0 ≤ bytesF (q1.fl b).pk ∧ bytesF (q1.fl b).pk ≤ 1099510579200 from by have := bytes_in (HFE.out.el b HB16.out) (HFE.out.len b HB16.out) 0; rw [List.drop_zero] at this; omega)
      have HXX := Shut.mk (items_all (HFE.out.el b HB16.out))
      clear hw5 hcp hrp
      refine wp_region_D (fun w' => Below w5.heap.size w5 w') 26 (by kernel_rfl) (show Below w5.heap.size w5 (World.drew wq) by rw [HW5.out]; exact Below.refl _ _) (fun hHeld hC => ?_)
      rw [← HW5.out] at hHeld ⊢
      refine dP 0 hC hHeld ?_; clear hC; intro hC
      refine dP 1 hC hHeld ?_; clear hC; intro hC
      refine dP 2 hC hHeld ?_; clear hC; intro hC
      refine wpAnyD_take (i := 3) (v := .agg ([Value.int .i64 (q1.fl b).cd.first, .int .i64 (q1.fl b).cd.drop, .int .u32 ((q1.fl b).cd.count : Nat), .int .u32 ((q1.fl b).cd.last : Nat), .bool (q1.fl b).cd.on]).toArray) 40 rfl (by kernel_rfl) hC (by kernel_rfl) (by kernel_rfl) (by kernel_rfl) (by decide) (fun _ _ _ h => h) (yieldsIf_load_mid (by rfl) 84 (.tmp 90) rfl x.g (3 + b * 7 + 2) rfl ([Value.int .i64 (q1.fl b).cd.first, .int .i64 (q1.fl b).cd.drop, .int .u32 ((q1.fl b).cd.count : Nat), .int .u32 ((q1.fl b).cd.last : Nat), .bool (q1.fl b).cd.on]) _ (fun w' hSw => range_below (B := 0) HCD.out hSw) Tryz.underlying84 rfl sizeRc) (fun _ => hHeld) ?_
      try simp only [Act.put, sG1, sG2, sG3, sG4, sG5, sG6]
      clear hC
      intro hC
      refine dP 4 hC hHeld ?_; clear hC; intro hC
      refine dP 5 hC hHeld ?_; clear hC; intro hC
      refine dP 6 hC hHeld ?_; clear hC; intro hC
      refine dP 7 hC hHeld ?_; clear hC; intro hC
      refine dT 8 hC hHeld (fun w hSw => (show w.cell? ⟨x.g, 1, none⟩ = some (.int .i64 x.tg) from below_at hSw HS5.out.is.head.2.1)) ?_; clear hC; intro hC
      refine dP 9 hC hHeld ?_; clear hC; intro hC
      refine dP 10 hC hHeld ?_; clear hC; intro hC
      refine dP 11 hC hHeld ?_; clear hC; intro hC
      refine dT 12 hC hHeld (fun w hSw => (show w.cell? ⟨x.g, 2, none⟩ = some (.int .i64 x.iv) from below_at hSw HS5.out.is.head.2.2)) ?_; clear hC; intro hC
      refine dP 13 hC hHeld ?_; clear hC; intro hC
      refine dP 15 hC hHeld ?_; clear hC; intro hC
      refine dP 16 hC hHeld ?_; clear hC; intro hC
      refine dP 17 hC hHeld ?_; clear hC; intro hC
      refine dT 18 hC hHeld (fun w hSw => (show w.cell? ⟨x.g, 3 + b * 7, none⟩ = some (.slice Ap (q1.fl b).pk.length cp) from below_at hSw HCP.out)) ?_; clear hC; intro hC
      refine wpAnyD_all (rs := [14, 25]) (by kernel_rfl) (by simp) hC (all_cons ⟨_, rfl, fun K hK => ?_⟩ (all_cons ⟨_, rfl, fun K hK => ?_⟩ all_nil))
      ·clear hC
       go_simp
       refine (flbytes_any T x.g (3 + b * 7) Ap cp (q1.fl b).pk w5 (below_at hHeld HCP.out) (HRP.out.below hHeld) (by have := HFE.out.len b HB16.out; omega) (fun p hp => (HFE.out.el b HB16.out p hp).2.2)).mono ?_
       rintro e' wn ⟨rfl, rfl⟩
       have hHeld2 := hHeld
       clear hHeld
       have hHeld := hHeld2
       clear hHeld2
       refine hK.out _ _ (fun _ => hHeld) (fun hC => ?_)
       clear hK K
       try simp only [Act.put, sG1, sG2, sG3, sG4, sG5, sG6]
       refine wpAnyD_all (rs := [19, 25]) (by kernel_rfl) (by simp) hC (all_cons ⟨_, rfl, fun K hK => ?_⟩ (all_cons ⟨_, rfl, fun K hK => ?_⟩ all_nil))
       ·clear hC
        go_simp
        refine (items_any T Ap cp (q1.fl b).pk w5 (HRP.out.below hHeld) (by have := HFE.out.len b HB16.out; omega)).mono ?_
        rintro e' w1 ⟨Bi, ci, rfl, hR, hB⟩
        have HITw1 := Shut.mk hR
        have hHeld2 := hHeld.trans (hB.mono hHeld.size)
        clear hB hR
        clear hHeld
        have hHeld := hHeld2
        clear hHeld2
        refine hK.out _ _ (fun _ => hHeld) (fun hC => ?_)
        clear hK K
        try simp only [Act.put, sG1, sG2, sG3, sG4, sG5, sG6]
        refine wpAnyD_all (rs := [20, 25]) (by kernel_rfl) (by simp) hC (all_cons ⟨_, rfl, fun K hK => ?_⟩ (all_cons ⟨_, rfl, fun K hK => ?_⟩ all_nil))
        ·clear hC
         go_simp
         refine (refpull_any t x.tg x.iv (bytesF (q1.fl b).pk) (q1.fl b).cd.first (q1.fl b).cd.drop (q1.fl b).cd.count (q1.fl b).cd.last (q1.fl b).cd.on Bi (q1.fl b).pk.length ci (itemsF (q1.fl b).pk) w1 HITw1.out (HFE.out.len b HB16.out) HTB.out HBY.out HXX.out (HFE.out.cd b HB16.out).1 (HFE.out.cd b HB16.out).2.1 (HFE.out.cd b HB16.out).2.2 (c, n, i) HPP.out).mono ?_
         rintro e' w2 ⟨rfl, hB⟩
         dsimp only
         have hHeld2 := hHeld.trans (hB.mono hHeld.size)
         clear hB
         clear hHeld
         have hHeld := hHeld2
         clear hHeld2
         refine hK.out _ _ (fun _ => hHeld) (fun hC => ?_)
         clear hK K
         try simp only [Act.put, sG1, sG2, sG3, sG4, sG5, sG6]
         refine dP 21 hC hHeld ?_; clear hC; intro hC
         refine dP 22 hC hHeld ?_; clear hC; intro hC
         refine dP 23 hC hHeld ?_; clear hC; intro hC
         refine dP 24 hC hHeld ?_; clear hC; intro hC
         refine wpAnyD_one (i := 25) (by kernel_rfl) rfl hC (fun K hK => ?_)
         clear hC
         go_simp
         have HAw3 := Shut.mk ((Below.refl w2.heap.size w2).alloc (Nat.le_refl _) (Obj.cells #[Value.int .i64 0, .int .i64 0, .int .u32 0, .int .u32 0, Value.bool false] 84 (0, 0)))
         have HXw3 := Shut.mk (MapKept.heap_alloc w2 (Obj.cells #[Value.int .i64 0, .int .i64 0, .int .u32 0, .int .u32 0, Value.bool false] 84 (0, 0))).1
         generalize World.alloc w2 _ = w3 at *
         obtain ⟨s11, hs11⟩ : ∃ s, s = w2.heap.size := ⟨_, rfl⟩
         have HS11 := Shut.mk (show w5.heap.size ≤ s11 by rw [hs11]; exact hHeld.size)
         rw [← hs11] at HXw3 ⊢
         clear hs11
         have hHeld2 := hHeld.trans (HAw3.out.mono hHeld.size)
         clear hHeld
         have hHeld := hHeld2
         clear hHeld2
         refine hK.out _ _ (fun _ => hHeld) (fun hC => ?_)
         clear hK K
         try simp only [Act.put, sG1, sG2, sG3, sG4, sG5, sG6]
         refine wpAnyD_one (i := 26) (by kernel_rfl) rfl hC (fun K hK => ?_)
         clear hC
         refine step_store_part rfl 84 (.tmp 11) (.tmp 109) rfl s11 0 (.agg ([Value.int .i64 c.first, .int .i64 c.drop, .int .u32 (c.count : Nat), .int .u32 (c.last : Nat), .bool c.on]).toArray) rfl rfl 84 [] [Value.int .i64 0, .int .i64 0, .int .u32 0, .int .u32 0, Value.bool false] [Value.int .i64 c.first, .int .i64 c.drop, .int .u32 (c.count : Nat), .int .u32 (c.last : Nat), .bool c.on] [] HXw3.out rfl rfl rfl sizeRc (by intro u hu; simp at hu; rcases hu with rfl | rfl | rfl | rfl | rfl <;> rfl) ?_
         have HXN := Shut.mk (setRow_heap w3 s11 _ ([] ++ [Value.int .i64 c.first, .int .i64 c.drop, .int .u32 (c.count : Nat), .int .u32 (c.last : Nat), .bool c.on] ++ []).toArray _ (0, 0) HXw3.out)
         have HBN := Shut.mk (below_setRow hHeld HS11.out ([] ++ [Value.int .i64 c.first, .int .i64 c.drop, .int .u32 (c.count : Nat), .int .u32 (c.last : Nat), .bool c.on] ++ []).toArray)
         generalize hq : World.setRow w3 s11 _ = w4 at *
         clear hq
         refine hK.out _ _ (past (by kernel_rfl)) (fun hC => ?_)
         clear hK K
         try simp only [Act.put, sG1, sG2, sG3, sG4, sG5, sG6]
         refine dQ 27 hC ?_; clear hC; intro hC
         refine dQ 28 hC ?_; clear hC; intro hC
         refine wpAnyD_done (by kernel_rfl) ?_ _
         try simp only [Act.put, sG1, sG2, sG3, sG4, sG5, sG6]
         go_wp2_with (fail)
         go_meet
         exact ⟨s11, rfl, rfl, rfl, HXN.out, HD5.out.trans (HBN.out.mono HD5.out.size), Nat.le_trans HD5.out.size HS11.out⟩
        ·clear hC
         go_simp
         have HAw2 := Shut.mk ((Below.refl w1.heap.size w1).alloc (Nat.le_refl _) (Obj.cells #[Value.int .i64 0, .int .i64 0, .int .u32 0, .int .u32 0, Value.bool false] 84 (0, 0)))
         have HXw2 := Shut.mk (MapKept.heap_alloc w1 (Obj.cells #[Value.int .i64 0, .int .i64 0, .int .u32 0, .int .u32 0, Value.bool false] 84 (0, 0))).1
         generalize World.alloc w1 _ = w2 at *
         obtain ⟨s11, hs11⟩ : ∃ s, s = w1.heap.size := ⟨_, rfl⟩
         have HS11 := Shut.mk (show w5.heap.size ≤ s11 by rw [hs11]; exact hHeld.size)
         rw [← hs11] at HXw2 ⊢
         clear hs11
         have HITw2 := Shut.mk (HITw1.out.below HAw2.out)
         have hHeld2 := hHeld.trans (HAw2.out.mono hHeld.size)
         clear hHeld
         have hHeld := hHeld2
         clear hHeld2
         refine hK.out _ _ (fun _ => hHeld) (fun hC => ?_)
         clear hK K
         try simp only [Act.put, sG1, sG2, sG3, sG4, sG5, sG6]
         refine wpAnyD_one (i := 20) (by kernel_rfl) rfl hC (fun K hK => ?_)
         clear hC
         go_simp
         refine (refpull_any t x.tg x.iv (bytesF (q1.fl b).pk) (q1.fl b).cd.first (q1.fl b).cd.drop (q1.fl b).cd.count (q1.fl b).cd.last (q1.fl b).cd.on Bi (q1.fl b).pk.length ci (itemsF (q1.fl b).pk) w2 HITw2.out (HFE.out.len b HB16.out) HTB.out HBY.out HXX.out (HFE.out.cd b HB16.out).1 (HFE.out.cd b HB16.out).2.1 (HFE.out.cd b HB16.out).2.2 (c, n, i) HPP.out).mono ?_
         rintro e' w3 ⟨rfl, hB⟩
         dsimp only
         have HXw3 := Shut.mk ((hB.block _ (lt_blk HXw2.out)).trans HXw2.out)
         have hHeld2 := hHeld.trans (hB.mono hHeld.size)
         clear hB
         clear hHeld
         have hHeld := hHeld2
         clear hHeld2
         refine hK.out _ _ (fun _ => hHeld) (fun hC => ?_)
         clear hK K
         try simp only [Act.put, sG1, sG2, sG3, sG4, sG5, sG6]
         refine dP 21 hC hHeld ?_; clear hC; intro hC
         refine dP 22 hC hHeld ?_; clear hC; intro hC
         refine dP 23 hC hHeld ?_; clear hC; intro hC
         refine dP 24 hC hHeld ?_; clear hC; intro hC
         refine wpAnyD_one (i := 26) (by kernel_rfl) rfl hC (fun K hK => ?_)
         clear hC
         refine step_store_part rfl 84 (.tmp 11) (.tmp 109) rfl s11 0 (.agg ([Value.int .i64 c.first, .int .i64 c.drop, .int .u32 (c.count : Nat), .int .u32 (c.last : Nat), .bool c.on]).toArray) rfl rfl 84 [] [Value.int .i64 0, .int .i64 0, .int .u32 0, .int .u32 0, Value.bool false] [Value.int .i64 c.first, .int .i64 c.drop, .int .u32 (c.count : Nat), .int .u32 (c.last : Nat), .bool c.on] [] HXw3.out rfl rfl rfl sizeRc (by intro u hu; simp at hu; rcases hu with rfl | rfl | rfl | rfl | rfl <;> rfl) ?_
         have HXN := Shut.mk (setRow_heap w3 s11 _ ([] ++ [Value.int .i64 c.first, .int .i64 c.drop, .int .u32 (c.count : Nat), .int .u32 (c.last : Nat), .bool c.on] ++ []).toArray _ (0, 0) HXw3.out)
         have HBN := Shut.mk (below_setRow hHeld HS11.out ([] ++ [Value.int .i64 c.first, .int .i64 c.drop, .int .u32 (c.count : Nat), .int .u32 (c.last : Nat), .bool c.on] ++ []).toArray)
         generalize hq : World.setRow w3 s11 _ = w4 at *
         clear hq
         refine hK.out _ _ (past (by kernel_rfl)) (fun hC => ?_)
         clear hK K
         try simp only [Act.put, sG1, sG2, sG3, sG4, sG5, sG6]
         refine dQ 27 hC ?_; clear hC; intro hC
         refine dQ 28 hC ?_; clear hC; intro hC
         refine wpAnyD_done (by kernel_rfl) ?_ _
         try simp only [Act.put, sG1, sG2, sG3, sG4, sG5, sG6]
         go_wp2_with (fail)
         go_meet
         exact ⟨s11, rfl, rfl, rfl, HXN.out, HD5.out.trans (HBN.out.mono HD5.out.size), Nat.le_trans HD5.out.size HS11.out⟩
       ·clear hC
        go_simp
        have HAw1 := Shut.mk ((Below.refl w5.heap.size w5).alloc (Nat.le_refl _) (Obj.cells #[Value.int .i64 0, .int .i64 0, .int .u32 0, .int .u32 0, Value.bool false] 84 (0, 0)))
        have HXw1 := Shut.mk (MapKept.heap_alloc w5 (Obj.cells #[Value.int .i64 0, .int .i64 0, .int .u32 0, .int .u32 0, Value.bool false] 84 (0, 0))).1
        generalize World.alloc w5 _ = w1 at *
        obtain ⟨s11, hs11⟩ : ∃ s, s = w5.heap.size := ⟨_, rfl⟩
        have HS11 := Shut.mk (show w5.heap.size ≤ s11 by rw [hs11]; exact hHeld.size)
        rw [← hs11] at HXw1 ⊢
        clear hs11
        have hHeld2 := hHeld.trans (HAw1.out.mono hHeld.size)
        clear hHeld
        have hHeld := hHeld2
        clear hHeld2
        refine hK.out _ _ (fun _ => hHeld) (fun hC => ?_)
        clear hK K
        try simp only [Act.put, sG1, sG2, sG3, sG4, sG5, sG6]
        refine wpAnyD_one (i := 19) (by kernel_rfl) rfl hC (fun K hK => ?_)
        clear hC
        go_simp
        refine (items_any T Ap cp (q1.fl b).pk w1 (HRP.out.below hHeld) (by have := HFE.out.len b HB16.out; omega)).mono ?_
        rintro e' w2 ⟨Bi, ci, rfl, hR, hB⟩
        have HITw2 := Shut.mk hR
        have HXw2 := Shut.mk ((hB.block _ (lt_blk HXw1.out)).trans HXw1.out)
        have hHeld2 := hHeld.trans (hB.mono hHeld.size)
        clear hB hR
        clear hHeld
        have hHeld := hHeld2
        clear hHeld2
        refine hK.out _ _ (fun _ => hHeld) (fun hC => ?_)
        clear hK K
        try simp only [Act.put, sG1, sG2, sG3, sG4, sG5, sG6]
        refine wpAnyD_one (i := 20) (by kernel_rfl) rfl hC (fun K hK => ?_)
        clear hC
        go_simp
        refine (refpull_any t x.tg x.iv (bytesF (q1.fl b).pk) (q1.fl b).cd.first (q1.fl b).cd.drop (q1.fl b).cd.count (q1.fl b).cd.last (q1.fl b).cd.on Bi (q1.fl b).pk.length ci (itemsF (q1.fl b).pk) w2 HITw2.out (HFE.out.len b HB16.out) HTB.out HBY.out HXX.out (HFE.out.cd b HB16.out).1 (HFE.out.cd b HB16.out).2.1 (HFE.out.cd b HB16.out).2.2 (c, n, i) HPP.out).mono ?_
        rintro e' w3 ⟨rfl, hB⟩
        dsimp only
        have HXw3 := Shut.mk ((hB.block _ (lt_blk HXw2.out)).trans HXw2.out)
        have hHeld2 := hHeld.trans (hB.mono hHeld.size)
        clear hB
        clear hHeld
        have hHeld := hHeld2
        clear hHeld2
        refine hK.out _ _ (fun _ => hHeld) (fun hC => ?_)
        clear hK K
        try simp only [Act.put, sG1, sG2, sG3, sG4, sG5, sG6]
        refine dP 21 hC hHeld ?_; clear hC; intro hC
        refine dP 22 hC hHeld ?_; clear hC; intro hC
        refine dP 23 hC hHeld ?_; clear hC; intro hC
        refine dP 24 hC hHeld ?_; clear hC; intro hC
        refine wpAnyD_one (i := 26) (by kernel_rfl) rfl hC (fun K hK => ?_)
        clear hC
        refine step_store_part rfl 84 (.tmp 11) (.tmp 109) rfl s11 0 (.agg ([Value.int .i64 c.first, .int .i64 c.drop, .int .u32 (c.count : Nat), .int .u32 (c.last : Nat), .bool c.on]).toArray) rfl rfl 84 [] [Value.int .i64 0, .int .i64 0, .int .u32 0, .int .u32 0, Value.bool false] [Value.int .i64 c.first, .int .i64 c.drop, .int .u32 (c.count : Nat), .int .u32 (c.last : Nat), .bool c.on] [] HXw3.out rfl rfl rfl sizeRc (by intro u hu; simp at hu; rcases hu with rfl | rfl | rfl | rfl | rfl <;> rfl) ?_
        have HXN := Shut.mk (setRow_heap w3 s11 _ ([] ++ [Value.int .i64 c.first, .int .i64 c.drop, .int .u32 (c.count : Nat), .int .u32 (c.last : Nat), .bool c.on] ++ []).toArray _ (0, 0) HXw3.out)
        have HBN := Shut.mk (below_setRow hHeld HS11.out ([] ++ [Value.int .i64 c.first, .int .i64 c.drop, .int .u32 (c.count : Nat), .int .u32 (c.last : Nat), .bool c.on] ++ []).toArray)
        generalize hq : World.setRow w3 s11 _ = w4 at *
        clear hq
        refine hK.out _ _ (past (by kernel_rfl)) (fun hC => ?_)
        clear hK K
        try simp only [Act.put, sG1, sG2, sG3, sG4, sG5, sG6]
        refine dQ 27 hC ?_; clear hC; intro hC
        refine dQ 28 hC ?_; clear hC; intro hC
        refine wpAnyD_done (by kernel_rfl) ?_ _
        try simp only [Act.put, sG1, sG2, sG3, sG4, sG5, sG6]
        go_wp2_with (fail)
        go_meet
        exact ⟨s11, rfl, rfl, rfl, HXN.out, HD5.out.trans (HBN.out.mono HD5.out.size), Nat.le_trans HD5.out.size HS11.out⟩
      ·clear hC
       go_simp
       have HAw1 := Shut.mk ((Below.refl w5.heap.size w5).alloc (Nat.le_refl _) (Obj.cells #[Value.int .i64 0, .int .i64 0, .int .u32 0, .int .u32 0, Value.bool false] 84 (0, 0)))
       have HXw1 := Shut.mk (MapKept.heap_alloc w5 (Obj.cells #[Value.int .i64 0, .int .i64 0, .int .u32 0, .int .u32 0, Value.bool false] 84 (0, 0))).1
       generalize World.alloc w5 _ = w1 at *
       obtain ⟨s11, hs11⟩ : ∃ s, s = w5.heap.size := ⟨_, rfl⟩
       have HS11 := Shut.mk (show w5.heap.size ≤ s11 by rw [hs11]; exact hHeld.size)
       rw [← hs11] at HXw1 ⊢
       clear hs11
       have hHeld2 := hHeld.trans (HAw1.out.mono hHeld.size)
       clear hHeld
       have hHeld := hHeld2
       clear hHeld2
       refine hK.out _ _ (fun _ => hHeld) (fun hC => ?_)
       clear hK K
       try simp only [Act.put, sG1, sG2, sG3, sG4, sG5, sG6]
       refine wpAnyD_one (i := 14) (by kernel_rfl) rfl hC (fun K hK => ?_)
       clear hC
       go_simp
       refine (flbytes_any T x.g (3 + b * 7) Ap cp (q1.fl b).pk w1 (below_at hHeld HCP.out) (HRP.out.below hHeld) (by have := HFE.out.len b HB16.out; omega) (fun p hp => (HFE.out.el b HB16.out p hp).2.2)).mono ?_
       rintro e' wn ⟨rfl, rfl⟩
       have hHeld2 := hHeld
       clear hHeld
       have hHeld := hHeld2
       clear hHeld2
       refine hK.out _ _ (fun _ => hHeld) (fun hC => ?_)
       clear hK K
       try simp only [Act.put, sG1, sG2, sG3, sG4, sG5, sG6]
       refine wpAnyD_one (i := 19) (by kernel_rfl) rfl hC (fun K hK => ?_)
       clear hC
       go_simp
       refine (items_any T Ap cp (q1.fl b).pk w1 (HRP.out.below hHeld) (by have := HFE.out.len b HB16.out; omega)).mono ?_
       rintro e' w2 ⟨Bi, ci, rfl, hR, hB⟩
       have HITw2 := Shut.mk hR
       have HXw2 := Shut.mk ((hB.block _ (lt_blk HXw1.out)).trans HXw1.out)
       have hHeld2 := hHeld.trans (hB.mono hHeld.size)
       clear hB hR
       clear hHeld
       have hHeld := hHeld2
       clear hHeld2
       refine hK.out _ _ (fun _ => hHeld) (fun hC => ?_)
       clear hK K
       try simp only [Act.put, sG1, sG2, sG3, sG4, sG5, sG6]
       refine wpAnyD_one (i := 20) (by kernel_rfl) rfl hC (fun K hK => ?_)
       clear hC
       go_simp
       refine (refpull_any t x.tg x.iv (bytesF (q1.fl b).pk) (q1.fl b).cd.first (q1.fl b).cd.drop (q1.fl b).cd.count (q1.fl b).cd.last (q1.fl b).cd.on Bi (q1.fl b).pk.length ci (itemsF (q1.fl b).pk) w2 HITw2.out (HFE.out.len b HB16.out) HTB.out HBY.out HXX.out (HFE.out.cd b HB16.out).1 (HFE.out.cd b HB16.out).2.1 (HFE.out.cd b HB16.out).2.2 (c, n, i) HPP.out).mono ?_
       rintro e' w3 ⟨rfl, hB⟩
       dsimp only
       have HXw3 := Shut.mk ((hB.block _ (lt_blk HXw2.out)).trans HXw2.out)
       have hHeld2 := hHeld.trans (hB.mono hHeld.size)
       clear hB
       clear hHeld
       have hHeld := hHeld2
       clear hHeld2
       refine hK.out _ _ (fun _ => hHeld) (fun hC => ?_)
       clear hK K
       try simp only [Act.put, sG1, sG2, sG3, sG4, sG5, sG6]
       refine dP 21 hC hHeld ?_; clear hC; intro hC
       refine dP 22 hC hHeld ?_; clear hC; intro hC
       refine dP 23 hC hHeld ?_; clear hC; intro hC
       refine dP 24 hC hHeld ?_; clear hC; intro hC
       refine wpAnyD_one (i := 26) (by kernel_rfl) rfl hC (fun K hK => ?_)
       clear hC
       refine step_store_part rfl 84 (.tmp 11) (.tmp 109) rfl s11 0 (.agg ([Value.int .i64 c.first, .int .i64 c.drop, .int .u32 (c.count : Nat), .int .u32 (c.last : Nat), .bool c.on]).toArray) rfl rfl 84 [] [Value.int .i64 0, .int .i64 0, .int .u32 0, .int .u32 0, Value.bool false] [Value.int .i64 c.first, .int .i64 c.drop, .int .u32 (c.count : Nat), .int .u32 (c.last : Nat), .bool c.on] [] HXw3.out rfl rfl rfl sizeRc (by intro u hu; simp at hu; rcases hu with rfl | rfl | rfl | rfl | rfl <;> rfl) ?_
       have HXN := Shut.mk (setRow_heap w3 s11 _ ([] ++ [Value.int .i64 c.first, .int .i64 c.drop, .int .u32 (c.count : Nat), .int .u32 (c.last : Nat), .bool c.on] ++ []).toArray _ (0, 0) HXw3.out)
       have HBN := Shut.mk (below_setRow hHeld HS11.out ([] ++ [Value.int .i64 c.first, .int .i64 c.drop, .int .u32 (c.count : Nat), .int .u32 (c.last : Nat), .bool c.on] ++ []).toArray)
       generalize hq : World.setRow w3 s11 _ = w4 at *
       clear hq
       refine hK.out _ _ (past (by kernel_rfl)) (fun hC => ?_)
       clear hK K
       try simp only [Act.put, sG1, sG2, sG3, sG4, sG5, sG6]
       refine dQ 27 hC ?_; clear hC; intro hC
       refine dQ 28 hC ?_; clear hC; intro hC
       refine wpAnyD_done (by kernel_rfl) ?_ _
       try simp only [Act.put, sG1, sG2, sG3, sG4, sG5, sG6]
       go_wp2_with (fail)
       go_meet
       exact ⟨s11, rfl, rfl, rfl, HXN.out, HD5.out.trans (HBN.out.mono HD5.out.size), Nat.le_trans HD5.out.size HS11.out⟩
     case rest =>
      obtain ⟨sC, rfl, rfl, rfl, hxc, hbc, hsc⟩ := hcut
      have HXC := Shut.mk hxc
      have HBC := Shut.mk hbc
      have HSC := Shut.mk hsc
      clear hxc hbc hsc
      have HS0 := Shut.mk (HSN.out.quiet HBC.out)
      have HNL := Shut.mk (show n ≤ (q1.fl b).pk.length ∧ (i = true → n < (q1.fl b).pk.length) ∧ (i = false → n = (q1.fl b).pk.length) from by
       have h1 := pullF_bound HPP.out
       refine ⟨?_, h1.1, h1.2⟩
       cases i with
       | true => have := h1.1 rfl; omega
       | false => have := h1.2 rfl; omega)
      have HDS := Shut.mk (show (ds1 ++ (q1.fl b).pk.take n).length ≤ 16000 from by
       have h0 := HTL.out
       rcases HEND.out with ⟨-, h1⟩ | ⟨-, -, h1, -⟩
       ·have := takes_fst h1; omega
       ·rw [← h1]; exact h0)
      obtain ⟨cpre, cpost, hcp, hc1, hc2⟩ := rqC_cd x V1 q1.fl HB16.out c
      have HCPL := Shut.mk hcp
      obtain ⟨q2, hq2⟩ : ∃ q2 : Qu, q2 = ⟨setF q1.fl b ⟨(q1.fl b).pk, (q1.fl b).df, c⟩, q1.fresh, q1.elder⟩ := ⟨_, rfl⟩
      have HQ2 := Shut.mk hq2
      have HPK2 := Shut.mk (show ∀ k, (q2.fl k).pk = (q1.fl k).pk from fun k => by
       rw [hq2]
       dsimp only
       by_cases e : k = b
       ·subst e; rw [setF_same]
       ·rw [setF_other _ _ e])
      have HBLK := Shut.mk (show wc.heap[x.g]? = some (.cells (cpre ++ cdL (q1.fl b).cd ++ cpost).toArray 90 (0, 0)) by rw [← hc1]; exact HS0.out.is.blk)
      have HS2 := Shut.mk (show TakR T w x V s4 u7 (wc.setRow x.g (cpre ++ cdL c ++ cpost).toArray) q2 V1 ds1 by
       have h9 := HS0.out.num (q2 := q2) (fun k _ => HPK2.out k) (by rw [hq2]) (by rw [hq2])
       have e9 : rqC x V1 q2.fl = cpre ++ cdL c ++ cpost := by rw [← hc2, hq2]
       rw [e9] at h9
       exact h9)
      have HFQ2 := Shut.mk (show FewQ q2 from ⟨fun k hk => by rw [HPK2.out]; have := HFE.out.len k hk; omega, fun k hk p hp => by rw [HPK2.out] at hp; exact (HFE.out.el k hk p hp).2.2⟩)
      obtain ⟨wd, hwd⟩ : ∃ wz, wz = wc.setRow x.g (cpre ++ cdL c ++ cpost).toArray := ⟨_, rfl⟩
      rw [← hwd] at HS2
      have HWD := Shut.mk hwd.symm
      have HXC2 := Shut.mk (show wc.heap[sC]? = some (.cells #[Value.int .i64 c.first, .int .i64 c.drop, .int .u32 (c.count : Nat), .int .u32 (c.last : Nat), .bool c.on] 84 (0, 0)) from HXC.out)
      clear hwd hq2 hc1 hc2 hcp hc5 hc6 hdf hdd y2 t1 t2
      go_wp2_with (first
       | (refine wpList_load_row rfl 84 (.tmp 11) rfl sC rfl 84 #[Value.int .i64 c.first, .int .i64 c.drop, .int .u32 (c.count : Nat), .int .u32 (c.last : Nat), .bool c.on] (0, 0) _ HXC2.out Tryz.underlying84 rfl sizeRc ?_)
       | (refine wpList_store_part rfl 84 (.tmp 115) (.tmp 113) rfl x.g (3 + b * 7 + 2) (.agg #[Value.int .i64 c.first, .int .i64 c.drop, .int .u32 (c.count : Nat), .int .u32 (c.last : Nat), .bool c.on]) rfl rfl 90 cpre (cdL (q1.fl b).cd) (cdL c) cpost HBLK.out HCPL.out rfl rfl sizeRc (by intro u hu; simp [cdL] at hu; rcases hu with rfl | rfl | rfl | rfl | rfl <;> rfl) ?_; rw [HWD.out]))
      go_loopw [7, 14] (fun u i wr2 => ∃ j : Nat, j ≤ n ∧ i = .int .i64 (j : Int) ∧ Shut (TakR T w x V s4 u wr2 q2 V1 (ds1 ++ (q1.fl b).pk.take j))) (fun _ i _ => n - (intOf i).toNat)
      case atStart => exact ⟨0, Nat.zero_le _, rfl, ⟨by rw [List.take_zero, List.append_nil]; exact HS2.out⟩⟩
      case round =>
       obtain ⟨j, hj, rfl, HL⟩ := hrel
       clear HS2 HS0 HSN HXC HBC HSC HBLK HWD HCPL
       obtain ⟨A0, c0, hv0, hrow0, hcap0, hA0⟩ := (HL.out.is.pk b HB16.out).row (by rw [HPK2.out]; have := HFE.out.len b HB16.out; unfold maxLen; omega)
       have hcell0 := HL.out.is.fl HB16.out (j := 0) _ rfl
       rw [HPK2.out] at hv0 hrow0 hcap0
       rw [hv0] at hcell0
       rw [Nat.add_zero] at hcell0
       by_cases hlt : j < n
       ·have hpl : j < (q1.fl b).pk.length := by have := HNL.out.1; omega
        have e0 : decide ((j : Int) < (n : Int)) = true := by simp; omega
        have e1 : decide (j < n) = true := by simpa using hlt
        obtain ⟨bb, off, aa, mm, cc, rfl, hrg, hrb, hmc, hmt⟩ := RowK.el hrow0 j hpl
        have HTK := Shut.mk (show ds1 ++ (q1.fl b).pk.take (j + 1) = (ds1 ++ (q1.fl b).pk.take j) ++ [(q1.fl b).pk.getD j pk00.1] by rw [List.append_assoc, List.take_succ_eq_append_getElem hpl]; simp [List.getD, hpl])
        have HKL := Shut.mk (show (ds1 ++ (q1.fl b).pk.take j).length ≤ 16000 by
         have h1 := HDS.out
         rw [List.length_append, List.length_take] at h1 ⊢
         omega)
        have hjb : j ≤ 100000 := by have := HFE.out.len b HB16.out; omega
        obtain ⟨kk, hkk⟩ : ∃ kk, kk = (ds1 ++ (q1.fl b).pk.take j).length := ⟨_, rfl⟩
        have HKK := Shut.mk hkk
        clear hkk
        generalize (q1.fl b).pk.getD j pk00.1 = p at *
        obtain ⟨pi, pf, pt, pa, pb⟩ := p
        have HLT := Shut.mk hlt
        have hpi : (j : Int) < ((q1.fl b).pk.length : Int) := by omega
        have HA := Shut.mk ((Below.refl wr.heap.size wr).alloc (Nat.le_refl _) (.cells #[Value.int .i64 pi, .int .u32 pf, .int .i64 pt, .int .i64 pa, Value.slice aa mm cc] 35))
        have HX := Shut.mk (block_range (heap_alloc_last wr (.cells #[Value.int .i64 pi, .int .u32 pf, .int .i64 pt, .int .i64 pa, Value.slice aa mm cc] 35)))
        have HSA := Shut.mk (HL.out.quiet HA.out)
        have HRBA := Shut.mk ((show RowB .u8 wr aa mm pb from hrb).below HA.out)
        have HOWN := Shut.mk (show OwnK pkC Pk.body 5 T _ (s4 + 1) 35 u7 kk (ds1 ++ (q1.fl b).pk.take j) by rw [HKK.out]; exact HSA.out.own)
        have HMC := Shut.mk hmc
        have HMT := Shut.mk hmt
        have HRG := Shut.mk (show wr.rangeAt bb (off + j * 5) [Value.int .i64 pi, .int .u32 pf, .int .i64 pt, .int .i64 pa, Value.slice aa mm cc] from hrg)
        have HTT2 := Shut.mk (show ∀ k, T k → k < (wr.alloc (.cells #[Value.int .i64 pi, .int .u32 pf, .int .i64 pt, .int .i64 pa, Value.slice aa mm cc] 35)).heap.size from HSA.out.is.there)
        have HS4L := Shut.mk (show s4 + 1 ≤ (wr.alloc (.cells #[Value.int .i64 pi, .int .u32 pf, .int .i64 pt, .int .i64 pa, Value.slice aa mm cc] 35)).heap.size from lt_blk HSA.out.res)
        obtain ⟨i0, hi0, hz0, hz1, hz2⟩ := info_parts' pkt_info
        have HI0 := Shut.mk hi0
        have HZ0 := Shut.mk hz0
        have HZ1 := Shut.mk hz1
        have HZ2 := Shut.mk hz2
        clear hrg hrb hmc hmt hrow0 hcap0 hA0 hlt hv0 hi0 hz0 hz1 hz2
        go_wp2_with (first
         | (refine wpList_load_mid rfl 35 (.tmp 127) rfl bb (off + j * 5) rfl [Value.int .i64 pi, .int .u32 pf, .int .i64 pt, .int .i64 pa, Value.slice aa mm cc] _ HRG.out Tryz.underlying35 rfl size5 ?_)
         | (refine app_k rfl (.tmp 121) (.tmp 129) 40 rfl 35 i0 (.agg #[.int .i64 0, .int .u32 0, .int .i64 0, .int .i64 0, .slice none 0 0]) 56 Tryz.underlying40 HI0.out HZ0.out HZ1.out HZ2.out rfl (by decide) (s4 + 1) kk u7 rfl HOWN.out ⟨pi, pf, pt, pa, pb⟩ (.slice aa mm cc) ⟨wr.heap.size, 0, none⟩ 1 rfl rfl (fun k q hq => by rw [Addr.add_mid]; exact HX.out k q hq) (fun q hq => by simp [pkC] at hq; rcases hq with rfl | rfl | rfl | rfl | rfl <;> rfl) (ElK.of HRBA.out HMC.out HMT.out) HTT2.out (by have := HKL.out; have := HKK.out; omega) (by have := HKL.out; have := HKK.out; omega) HS4L.out ?_
            intro g6 c6' w6 HO6 HB6 HON6 HOR6))
        have HN6 := Shut.mk (HSA.out.app HON6.out (ds2 := ds1 ++ (q1.fl b).pk.take (j + 1)) (show OwnP T w6 (s4 + 1) (.slice (some ⟨g6, 0, none⟩) (kk + 1) c6') (ds1 ++ (q1.fl b).pk.take (j + 1)) by
         rw [HTK.out]
         unfold OwnP
         rw [List.length_append (bs := [_]), ← HKK.out]
         exact HO6.out) (fun g hg => by
          have e9 : g6 = g := by simpa [Value.ownBlock] using hg
          subst e9
          rcases HOR6.out with e | e
          ·exact .inl e
          ·exact .inr (Nat.le_of_eq e.symm)))
        clear HO6 HB6 HON6 HOR6
        go_roundw
        case rel => exact ⟨j + 1, by have := HLT.out; omega, by go_num, ⟨HN6.out⟩⟩
        case measure => have := HLT.out; simp [intOf]; omega
       ·obtain rfl : n = j := by omega
        have HRW := Shut.mk hrow0
        have HCP0 := Shut.mk hcap0
        have HPB := Shut.mk (HL.out.is.pk b HB16.out)
        have e0 : decide ((n : Int) < (n : Int)) = false := by simp
        have e1 : decide (n < n) = false := by simp
        rw [HPK2.out] at HPB
        clear hlt hj hrow0 hcap0 hA0
        go_upto_region 19 with (fail)
        clear e0 e1
        go_cut [] from 131 to 140 (fun wx => ∃ vn, TakR T w x V s4 u7 wx ⟨setF q2.fl b ⟨(q1.fl b).pk.drop n, (q2.fl b).df, (q2.fl b).cd⟩, q2.fresh, q2.elder⟩ (updF V1 b vn) (ds1 ++ (q1.fl b).pk.take n))
        case first =>
         obtain ⟨l0, ho0, -⟩ := HPB.out
         have hN1 : (n : Int) ≤ ((q1.fl b).pk.length : Int) := by have := HNL.out.1; omega
         have hN2 : n ≤ (q1.fl b).pk.length := HNL.out.1
         rcases ho0.1.2 with ⟨e2, e3⟩ | ⟨g0, cap0, cur0, e2, -⟩
         ·rw [hv0] at e2
          injection e2 with f1 f2 f3
          subst f1 f3
          have hn0 : n = 0 := by omega
          subst hn0
          rw [f2] at hcell0
          have HDR := Shut.mk (show (q1.fl b).pk.drop 0 = [] from List.eq_nil_of_length_eq_zero (by rw [List.length_drop]; omega))
          have HPA := Shut.mk (packets_any T none 0 [] wr (RowK.nil _ _ _) (by simp) HL.out.is.there)
          clear hN1 hN2 hv0 f2 e3 ho0
          go_wp2_with (fail)
          refine HPA.out.mono ?_
          rintro e' wb ⟨vn, rfl, hu, hb, -⟩
          have HU := Shut.mk hu
          have HNP := Shut.mk (HL.out.newpk HB16.out hb (q2.fl b).df (q2.fl b).cd hu)
          have HBK2 := Shut.mk ((hb.block _ (lt_blk HL.out.is.blk)).trans HL.out.is.blk)
          clear hu hb
          go_wp2_with (refine wpList_store_into rfl 40 (.tmp 140) (.tmp 138) rfl x.g (3 + (b * 7 + 0)) vn rfl rfl (ownsP_one HU.out) 90 _ (rqC x (updF V1 b vn) (setF q2.fl b ⟨[], (q2.fl b).df, (q2.fl b).cd⟩)).toArray HBK2.out sizePs (by rw [rq_size]; have := HB16.out; omega) (rq_set x V1 q2.fl HB16.out (by decide) vn vn _ rfl) ?_)
          go_meet
          exact ⟨vn, by rw [HDR.out]; exact HNP.out⟩
         ·rw [hv0] at e2
          injection e2 with f1 f2 f3
          subst f1
          clear f2 f3 ho0
          obtain ⟨AP, hAP⟩ : ∃ AP : Option Addr, (if c0 = n then (some ⟨g0, 0, none⟩ : Option Addr) else some ⟨g0, n * 5, none⟩) = AP := ⟨_, rfl⟩
          have HRR := Shut.mk (show RowP T wr AP ((q1.fl b).pk.drop n) by
           by_cases hc1 : c0 = n
           ·have hr1 : (q1.fl b).pk.drop n = [] := List.drop_eq_nil_of_le (by have := HCP0.out; omega)
            rw [hr1]
            exact RowK.nil _ _ _
           ·rw [if_neg hc1] at hAP
            rw [← hAP]
            have h9 := RowK.rest HRW.out n hN2
            rw [Nat.zero_add] at h9
            unfold RowP
            rw [List.length_drop]
            exact h9)
          have HPA := Shut.mk (packets_any T AP (c0 - n) ((q1.fl b).pk.drop n) wr HRR.out (by have := HFE.out.len b HB16.out; rw [List.length_drop]; omega) HL.out.is.there)
          rw [List.length_drop] at HPA
          clear hv0
          go_wp2_with (fail)
          refine HPA.out.mono ?_
          rintro e' wb ⟨vn, rfl, hu, hb, -⟩
          have HU := Shut.mk hu
          have HNP := Shut.mk (HL.out.newpk HB16.out hb (q2.fl b).df (q2.fl b).cd hu)
          have HBK2 := Shut.mk ((hb.block _ (lt_blk HL.out.is.blk)).trans HL.out.is.blk)
          clear hu hb
          go_wp2_with (refine wpList_store_into rfl 40 (.tmp 140) (.tmp 138) rfl x.g (3 + (b * 7 + 0)) vn rfl rfl (ownsP_one HU.out) 90 _ (rqC x (updF V1 b vn) (setF q2.fl b ⟨(q1.fl b).pk.drop n, (q2.fl b).df, (q2.fl b).cd⟩)).toArray HBK2.out sizePs (by rw [rq_size]; have := HB16.out; omega) (rq_set x V1 q2.fl HB16.out (by decide) vn vn _ rfl) ?_)
          go_meet
          exact ⟨vn, HNP.out⟩
        case rest =>
         obtain ⟨vn, hS3⟩ := hcut
         have HS3 := Shut.mk hS3
         clear hS3 HL HRW HCP0 HPB hv0 hcell0
         obtain ⟨V2, hV2⟩ : ∃ V2, V2 = updF V1 b vn := ⟨_, rfl⟩
         have HVL := Shut.mk (show V2 16 = V1 16 ∧ V2 17 = V1 17 ∧ V2 b = vn by rw [hV2]; exact ⟨updF_other _ _ (by have := HB16.out; omega), updF_other _ _ (by have := HB16.out; omega), updF_same _ _ _⟩)
         rw [← hV2] at HS3
         obtain ⟨q3, hq3⟩ : ∃ q3 : Qu, q3 = ⟨setF q2.fl b ⟨(q1.fl b).pk.drop n, (q2.fl b).df, (q2.fl b).cd⟩, q2.fresh, q2.elder⟩ := ⟨_, rfl⟩
         rw [← hq3] at HS3
         have HF3 := Shut.mk (show q3.fresh = q1.fresh ∧ q3.elder = q1.elder ∧ q3.fl = setF q1.fl b ⟨(q1.fl b).pk.drop n, (q1.fl b).df, c⟩ by
          rw [hq3, HQ2.out]
          dsimp only
          refine ⟨rfl, rfl, ?_⟩
          rw [setF_same, setF_twice])
         clear hV2 hq3
         rcases HEND.out with ⟨hi, ht⟩ | ⟨hi, hr, hds, hqq⟩
         ·have HNG := Shut.mk (HNL.out.2.2 hi)
          subst hi
          have HTG := Shut.mk ht
          clear ht
          have hc5 := HS3.out.is.two.1
          have hc6 := HS3.out.is.two.2
          rw [HVL.out.1, h5v, natsI_len] at hc5
          rw [HVL.out.2.1, h6v, natsI_len] at hc6
          obtain ⟨ag, hag⟩ : ∃ ag : Bool, ag = (nw && decide (0 < q1.elder.length)) := ⟨_, rfl⟩
          have HAG := Shut.mk hag
          clear hag
          go_upto_region 21 with (fail)
          go_cut [15] from 143 to 151 (fun s15 wx => s15 = .bool ag ∧ wc = wx)
          case first =>
           cases nw with
           | false =>
            have ha : ag = false := by rw [HAG.out]; rfl
            subst ha
            go_wp2_with (fail)
            go_meet
            exact ⟨rfl, rfl⟩
           | true =>
            by_cases h0 : 0 < q1.elder.length
            ·have e1 : decide ((0 : Int) < (q1.elder.length : Int)) = true := by simp; omega
             have e2 : decide (0 < q1.elder.length) = true := by simpa using h0
             have ha : ag = true := by rw [HAG.out, e2]; rfl
             subst ha
             clear h0
             go_wp2_with (fail)
             go_meet
             exact ⟨rfl, rfl⟩
            ·have e1 : decide ((0 : Int) < (q1.elder.length : Int)) = false := decide_eq_false (by omega)
             have e2 : decide (0 < q1.elder.length) = false := by simpa using h0
             have ha : ag = false := by rw [HAG.out, e2]; rfl
             subst ha
             clear h0
             go_wp2_with (fail)
             go_meet
             exact ⟨rfl, rfl⟩
          case rest =>
           obtain ⟨rfl, rfl⟩ := hcut
           have HR5a := Shut.mk (show RowB .i64 wc A5 q1.fresh.length (natsI q1.fresh) from by
            obtain ⟨A, cz, e1, e2, -⟩ := HS3.out.is.fr.row (by rw [natsI_len, HF3.out.1]; have := HLL.out.1; unfold maxLen; omega) (nats_wf (by rw [HF3.out.1]; exact HLL.out.2.2.1))
            rw [HF3.out.1] at e1 e2
            rw [HVL.out.1, h5v] at e1
            injection e1 with e3 e4 e5
            rw [natsI_len] at e2
            rw [e3]
            exact e2)
           clear hc6
           go_wp2_with (fail)
           refine (del_any A5 q1.fresh.length c5 (natsI q1.fresh) (b : Int) wc HR5a.out (by have := HLL.out.1; omega)).mono ?_
           rintro e' wb ⟨u11, rfl, hu, hbl⟩
           rw [nats_del] at hu
           have HN1 := Shut.mk (owns_onecell hu.1)
           have hnf := HS3.out.newfr hbl (v := u11) (l := delL q1.fresh b) hu
           obtain ⟨V3, hV3⟩ : ∃ V3, V3 = updF V2 16 u11 := ⟨_, rfl⟩
           rw [← hV3] at hnf
           obtain ⟨wB, hwB⟩ : ∃ wz, wz = wb.setRow x.g (rqC x V3 q3.fl).toArray := ⟨_, rfl⟩
           rw [← hwB] at hnf
           have HWB := Shut.mk hwB.symm
           have HBLB := Shut.mk ((hbl.block _ (lt_blk HS3.out.is.blk)).trans HS3.out.is.blk)
           have HNW2 := Shut.mk (show (rqC x V2 q3.fl).toArray.setIfInBounds 115 u11 = (rqC x V3 q3.fl).toArray by rw [hV3]; exact rq_set16 x V2 q3.fl u11)
           have HV17 := Shut.mk (show V3 17 = V1 17 by rw [hV3, updF_other _ _ (by decide)]; exact HVL.out.2.1)
           have HSB := Shut.mk hnf
           clear hnf hwB hV3 hu hbl
           obtain ⟨qb, hqb⟩ : ∃ qb : Qu, qb = ⟨q3.fl, delL q1.fresh b, q3.elder⟩ := ⟨_, rfl⟩
           rw [← hqb] at HSB
           have HFB := Shut.mk (show qb.fl = q3.fl ∧ qb.fresh = delL q1.fresh b ∧ qb.elder = q1.elder by rw [hqb]; exact ⟨rfl, rfl, HF3.out.2.1⟩)
           clear hqb hc5
           have hc6b := HSB.out.is.two.2
           rw [HV17.out, h6v, natsI_len] at hc6b
           go_wp2_with (refine wpList_store_into rfl 88 (.tmp 160) (.tmp 158) rfl x.g 115 u11 rfl rfl HN1.out 90 _ (rqC x V3 q3.fl).toArray HBLB.out sizeIs (by rw [rq_size]; omega) HNW2.out ?_; rw [HWB.out])
           have HR6a := Shut.mk (show RowB .i64 wB A6 q1.elder.length (natsI q1.elder) from by
            obtain ⟨A, cz, e1, e2, -⟩ := HSB.out.is.el.row (by rw [natsI_len, HFB.out.2.2]; have := HLL.out.2.1; unfold maxLen; omega) (nats_wf (by rw [HFB.out.2.2]; exact HLL.out.2.2.2))
            rw [HFB.out.2.2] at e1 e2
            rw [HV17.out, h6v] at e1
            injection e1 with e3 e4 e5
            rw [natsI_len] at e2
            rw [e3]
            exact e2)
           refine (del_any A6 q1.elder.length c6 (natsI q1.elder) (b : Int) wB HR6a.out (by have := HLL.out.2.1; omega)).mono ?_
           rintro e' w2c ⟨u12, rfl, hu, hbl⟩
           rw [nats_del] at hu
           have HN2 := Shut.mk (owns_onecell hu.1)
           have hnf := HSB.out.newel hbl (v := u12) (l := delL q1.elder b) hu
           obtain ⟨V4, hV4⟩ : ∃ V4, V4 = updF V3 17 u12 := ⟨_, rfl⟩
           rw [← hV4] at hnf
           obtain ⟨wD, hwD⟩ : ∃ wz, wz = w2c.setRow x.g (rqC x V4 qb.fl).toArray := ⟨_, rfl⟩
           rw [← hwD] at hnf
           have HWD2 := Shut.mk hwD.symm
           have HBLD := Shut.mk ((hbl.block _ (lt_blk HSB.out.is.blk)).trans HSB.out.is.blk)
           have HNW3 := Shut.mk (show (rqC x V3 qb.fl).toArray.setIfInBounds 116 u12 = (rqC x V4 qb.fl).toArray by rw [hV4]; exact rq_set17 x V3 qb.fl u12)
           have HV4 := Shut.mk (show V4 17 = u12 by rw [hV4]; exact updF_same _ _ _)
           have HSD := Shut.mk hnf
           clear hnf hwD hV4 hu hbl
           obtain ⟨qd, hqd⟩ : ∃ qd : Qu, qd = ⟨qb.fl, qb.fresh, delL q1.elder b⟩ := ⟨_, rfl⟩
           rw [← hqd] at HSD
           have HFD := Shut.mk (show qd.fl = setF q1.fl b ⟨(q1.fl b).pk.drop n, (q1.fl b).df, c⟩ ∧ qd.fresh = delL q1.fresh b ∧ qd.elder = delL q1.elder b ∧ qd.fl = qb.fl by rw [hqd]; exact ⟨HFB.out.1.trans HF3.out.2.2, HFB.out.2.1, rfl, rfl⟩)
           clear hqd
           have HNB := Shut.mk (show (q1.fl b).pk.length ≤ n from Nat.le_of_eq HNG.out.symm)
           have HMU := Shut.mk (mu_gone (c := c) (n := n) HI.out HFQ.out)
           have HIV := Shut.mk (inv_gone (nw := nw) (c := c) HI.out (firstQ_mem HFQ.out) HNB.out)
           have HFW := Shut.mk (few_gone (nw := nw) HFE.out HB16.out (show 0 ≤ t from HT1.out) (show t + 1073741824 ≤ 4503599627370496 from HT2.out) HPP.out)
           cases hage : ag with
           | false =>
            have HGQ := Shut.mk (show goneQ q1 b nw c n = qd by
             have h9 := HAG.out
             rw [hage] at h9
             have h8 : ¬ (nw = true ∧ q1.elder ≠ []) := by
              rintro ⟨a1, a2⟩
              rw [a1] at h9
              have : 0 < q1.elder.length := List.length_pos_iff.2 a2
              simp [this] at h9
             obtain ⟨a1, a2, a3, -⟩ := HFD.out
             unfold goneQ
             rw [if_neg h8]
             cases qd
             dsimp only at a1 a2 a3
             rw [a1, a2, a3])
            clear hage
            go_wp2_with (refine wpList_store_into rfl 88 (.tmp 169) (.tmp 167) rfl x.g 116 u12 rfl rfl HN2.out 90 _ (rqC x V4 qb.fl).toArray HBLD.out sizeIs (by rw [rq_size]; omega) HNW3.out ?_; rw [HWD2.out])
            go_roundg (mu q1)
            case measure => exact HMUL.out
            case rel => exact ⟨goneQ q1 b nw c n, V4, _, ⟨by rw [HGQ.out]; exact HSD.out⟩, HIV.out, HFW.out, HTG.out, HMU.out⟩
           | true =>
            have HGQ := Shut.mk (show goneQ q1 b nw c n = ⟨qd.fl, qd.fresh, delL q1.elder b ++ [b]⟩ by
             have h9 := HAG.out
             rw [hage] at h9
             have h8 : nw = true ∧ q1.elder ≠ [] := by
              have h7 := h9.symm
              rw [Bool.and_eq_true] at h7
              exact ⟨h7.1, List.length_pos_iff.1 (by simpa using h7.2)⟩
             obtain ⟨a1, a2, a3, -⟩ := HFD.out
             unfold goneQ
             rw [if_pos h8, a1, a2])
            clear hage
            have HA1 := Shut.mk ((Below.refl wD.heap.size wD).alloc (Nat.le_refl _) (.cells #[.int .i64 (b : Nat)] 3 (0, 0)))
            have HC1 := Shut.mk (show (wD.alloc (.cells #[.int .i64 (b : Nat)] 3 (0, 0))).cell? ⟨wD.heap.size, 0, none⟩ = some (.int .i64 (b : Nat)) by have := cell_one_new wD (.int .i64 (b : Nat)) 3 0 _ rfl; rwa [Addr.add_mid] at this)
            have HDL := Shut.mk (show (natsI (delL q1.elder b)).length ≤ 1000000 from by
             rw [natsI_len]
             have h1 : (delL q1.elder b).length ≤ q1.elder.length := List.length_filter_le _ _
             have h2 := HLL.out.2.1
             omega)
            have HEL := Shut.mk (show OwnN (wD.alloc (.cells #[.int .i64 (b : Nat)] 3 (0, 0))) 0 u12 (natsI (delL q1.elder b)) from by
             have h1 := HSD.out.is.el
             rw [HV4.out, HFD.out.2.2.1] at h1
             exact OwnS.below h1 HA1.out)
            have hc6d := HSD.out.is.two.2
            rw [HV4.out] at hc6d
            have HSDA := Shut.mk (HSD.out.quiet HA1.out)
            go_wp2_with (first
             | (refine wpList_store_into rfl 88 (.tmp 169) (.tmp 167) rfl x.g 116 u12 rfl rfl HN2.out 90 _ (rqC x V4 qb.fl).toArray HBLD.out sizeIs (by rw [rq_size]; omega) HNW3.out ?_; rw [HWD2.out])
             | (refine app_n rfl (.tmp 175) (.tmp 177) rfl 0 u12 _ rfl HEL.out (b : Nat) ⟨wD.heap.size, 0, none⟩ 1 rfl HC1.out HDL.out (Nat.zero_le _) ?_
                intro vE wE HE HBE HYE HZE
                have HN4 := Shut.mk (owns_onecell HE.out.1)
                have hnf := HSDA.out.appel (l := delL q1.elder b ++ [b]) (v := vE) (by rw [HV4.out]; exact HYE.out) (by rw [nats_snoc]; exact HE.out) (by rw [HV4.out]; exact fun k hk => (HZE.out k hk).imp id fun e => Nat.le_of_eq e.symm)
                obtain ⟨V5, hV5⟩ : ∃ V5, V5 = updF V4 17 vE := ⟨_, rfl⟩
                rw [← hV5] at hnf
                obtain ⟨wG, hwG⟩ : ∃ wz, wz = wE.setRow x.g (rqC x V5 qd.fl).toArray := ⟨_, rfl⟩
                rw [← hwG] at hnf
                have HWG := Shut.mk hwG.symm
                have HBLG := Shut.mk (HYE.out.at_ HSDA.out.is.blk (fun e => (HSDA.out.is.apart 17 (by omega) _ (by rw [HV4.out]; exact e)).1 rfl))
                have HNW4 := Shut.mk (show (rqC x V4 qd.fl).toArray.setIfInBounds 116 vE = (rqC x V5 qd.fl).toArray by rw [hV5]; exact rq_set17 x V4 qd.fl vE)
                have HSG := Shut.mk hnf
                clear hnf hwG hV5)
             | (refine wpList_store_into rfl 88 (.tmp 180) (.tmp 178) rfl x.g 116 vE rfl rfl HN4.out 90 _ (rqC x V5 qd.fl).toArray HBLG.out sizeIs (by rw [rq_size]; omega) HNW4.out ?_; rw [HWG.out]))
            go_roundg (mu q1)
            case measure => exact HMUL.out
            case rel => exact ⟨goneQ q1 b nw c n, V5, _, ⟨by rw [HGQ.out]; exact HSG.out⟩, HIV.out, HFW.out, HTG.out, HMU.out⟩
         ·have HNT := Shut.mk (HNL.out.2.1 hi)
          subst hi
          have HRS := Shut.mk hr
          have HDSS := Shut.mk hds
          have HQQ := Shut.mk hqq
          clear hr hds hqq
          have HDRP := Shut.mk (show (q1.fl b).pk.drop n = (q1.fl b).pk.getD n pk00.1 :: (q1.fl b).pk.drop (n + 1) from by rw [List.drop_eq_getElem_cons HNT.out]; simp [List.getD, HNT.out])
          have HGP := Shut.mk (show (q1.fl b).pk[n]? = some ((q1.fl b).pk.getD n pk00.1) from by simp [List.getD, HNT.out])
          generalize (q1.fl b).pk.getD n pk00.1 = p at *
          obtain ⟨pi, pf, pt, pa, pb⟩ := p
          obtain ⟨rr, hrr0⟩ : ∃ rr, rr = (q1.fl b).pk.drop (n + 1) := ⟨_, rfl⟩
          rw [← hrr0] at HDRP
          have HRRD := Shut.mk hrr0
          clear hrr0
          have HP3 := Shut.mk (show (q3.fl b).pk = ⟨pi, pf, pt, pa, pb⟩ :: rr from by rw [HF3.out.2.2, setF_same]; exact HDRP.out)
          have HD3 := Shut.mk (show (q3.fl b).df = (q1.fl b).df ∧ (q3.fl b).cd = c from by rw [HF3.out.2.2, setF_same]; exact ⟨rfl, rfl⟩)
          have HRL := Shut.mk (show rr.length ≤ 1000 from by have := HFE.out.len b HB16.out; rw [HRRD.out, List.length_drop]; omega)
          have HPBL := Shut.mk (show pb.length ≤ 1000000 from by
           have h1 : (⟨pi, pf, pt, pa, pb⟩ : Pk) ∈ (q1.fl b).pk.drop n := by rw [HDRP.out]; exact List.mem_cons_self
           exact (HFE.out.el b HB16.out _ (List.mem_of_mem_drop h1)).2.2)
          obtain ⟨A3, c3, hv3, hrow3, hcap3, -⟩ := (HS3.out.is.pk b HB16.out).row (by rw [HP3.out]; have := HRL.out; simp; unfold maxLen; omega)
          have hcell3 := HS3.out.is.fl HB16.out (j := 0) _ rfl
          rw [HP3.out] at hv3 hrow3 hcap3
          rw [hv3, Nat.add_zero] at hcell3
          obtain ⟨bb, off, aa, mm, cc, rfl, hrg, hrb, hmc, hmt⟩ := RowK.el hrow3 0 (by simp)
          rw [Nat.zero_mul, Nat.add_zero] at hrg
          have HRG := Shut.mk (show wc.rangeAt bb off [Value.int .i64 pi, .int .u32 pf, .int .i64 pt, .int .i64 pa, Value.slice aa mm cc] from hrg)
          have HEK := Shut.mk (show ElK T wc (.slice aa mm cc) pb from ElK.of hrb hmc hmt)
          have HMM := Shut.mk (show mm = pb.length from (show RowB .u8 wc aa mm pb from hrb).len.symm)
          have hlr : rr.length + 1 ≤ c3 := by simpa using hcap3
          have hcell3 : wc.cell? ⟨x.g, 3 + b * 7, none⟩ = some (.slice (some ⟨bb, off, none⟩) (rr.length + 1) c3) := by simpa using hcell3
          have hrest := RowK.rest hrow3 1 (by simp)
          simp only [List.length_cons, List.drop_one, List.tail_cons, Nat.add_sub_cancel, Nat.one_mul] at hrest
          obtain ⟨AP, hAP⟩ : ∃ AP : Addr, (if c3 = 1 then some (⟨bb, off, none⟩ : Addr) else some ⟨bb, off + 5, none⟩) = some AP := by split <;> exact ⟨_, rfl⟩
          have HRC := Shut.mk (show RowP T wc (some AP) rr by
           by_cases hc1 : c3 = 1
           ·have hr1 : rr = [] := List.eq_nil_of_length_eq_zero (by omega)
            subst hr1
            exact RowK.nil _ _ _
           ·rw [if_neg hc1] at hAP
            rw [← hAP]
            exact hrest)
          clear hv3 hrow3 hcap3 hrg hrb hmc hmt hrest
          obtain ⟨s16, hs16⟩ : ∃ s, s = wc.heap.size := ⟨_, rfl⟩
          have HSs16 := Shut.mk hs16
          have HAwp := Shut.mk ((Below.refl wc.heap.size wc).alloc (Nat.le_refl _) (Obj.cells #[Value.int .i64 0, .int .u32 0, .int .i64 0, .int .i64 0, Value.slice none 0 0] 35 (0, 0)))
          have HXwp := Shut.mk (show (wc.alloc (Obj.cells #[Value.int .i64 0, .int .u32 0, .int .i64 0, .int .i64 0, Value.slice none 0 0] 35 (0, 0))).heap[s16]? = some (Obj.cells #[Value.int .i64 0, .int .u32 0, .int .i64 0, .int .i64 0, Value.slice none 0 0] 35 (0, 0)) by rw [hs16]; exact (MapKept.heap_alloc wc (Obj.cells #[Value.int .i64 0, .int .u32 0, .int .i64 0, .int .i64 0, Value.slice none 0 0] 35 (0, 0))).1)
          obtain ⟨wp, hwp⟩ : ∃ w4, w4 = (wc.alloc (Obj.cells #[Value.int .i64 0, .int .u32 0, .int .i64 0, .int .i64 0, Value.slice none 0 0] 35 (0, 0))).setRow s16 #[Value.int .i64 pi, .int .u32 pf, .int .i64 pt, .int .i64 pa, Value.slice aa mm cc] := ⟨_, rfl⟩
          have HYwp := Shut.mk (show wp.heap[s16]? = some (Obj.cells #[Value.int .i64 pi, .int .u32 pf, .int .i64 pt, .int .i64 pa, Value.slice aa mm cc] 35 (0, 0)) by rw [hwp]; exact setRow_heap _ s16 _ #[Value.int .i64 pi, .int .u32 pf, .int .i64 pt, .int .i64 pa, Value.slice aa mm cc] _ (0, 0) HXwp.out)
          have HBwp := Shut.mk (show Below wc.heap.size wc wp by rw [hwp]; exact below_setRow HAwp.out (by omega) _)
          have HWwp := Shut.mk hwp
          clear hwp hs16
          have HSP := Shut.mk (HS3.out.quiet HBwp.out)
          have hcellp := below_at HBwp.out hcell3
          have HPA := Shut.mk (packets_any T (some AP) (c3 - 1) rr wp (RowK.below HRC.out HBwp.out) (by have := HRL.out; omega) HSP.out.is.there)
          have HEK2 := Shut.mk (HEK.out.below HBwp.out)
          have h1r : (1 : Int) ≤ (rr.length : Int) + 1 := by omega
          have h0r : (0 : Int) < (rr.length : Int) + 1 := by omega
          have h0n : 0 < rr.length + 1 := by omega
          go_wp2_with (first
           | (refine wpList_load_mid rfl 35 (.tmp 185) rfl bb off rfl [Value.int .i64 pi, .int .u32 pf, .int .i64 pt, .int .i64 pa, Value.slice aa mm cc] _ HRG.out Tryz.underlying35 rfl size5 ?_)
           | (refine wpList_store_row rfl 35 (.tmp 16) (.tmp 186) rfl s16 #[Value.int .i64 pi, .int .u32 pf, .int .i64 pt, .int .i64 pa, Value.slice aa mm cc] (by show Value.pointer (some ⟨wc.heap.size, 0, none⟩) = _; rw [HSs16.out]) rfl 35 _ HXwp.out size5 rfl (pkt_one _ _ _ _ _ _ _) ?_
              rw [show World.setRow (World.alloc wc _) s16 _ = wp from HWwp.out.symm, ← HSs16.out]))
          clear hcell3 hcellp hAP h1r h0r h0n hlr
          refine HPA.out.mono ?_
          rintro e' wb ⟨u', rfl, hu, hb, -⟩
          have HU := Shut.mk hu
          have HNP := HSP.out.newpk HB16.out hb (q3.fl b).df (q3.fl b).cd hu
          obtain ⟨V4, hV4⟩ : ∃ V4, V4 = updF V2 b u' := ⟨_, rfl⟩
          rw [← hV4] at HNP
          obtain ⟨wE, hwE⟩ : ∃ wz, wz = wb.setRow x.g (rqC x V4 (setF q3.fl b ⟨rr, (q3.fl b).df, (q3.fl b).cd⟩)).toArray := ⟨_, rfl⟩
          rw [← hwE] at HNP
          have HWE := Shut.mk hwE.symm
          have HSE := Shut.mk HNP
          clear HNP
          obtain ⟨q4, hq4⟩ : ∃ q4 : Qu, q4 = ⟨setF q3.fl b ⟨rr, (q3.fl b).df, (q3.fl b).cd⟩, q3.fresh, q3.elder⟩ := ⟨_, rfl⟩
          rw [← hq4] at HSE
          have HBK3 := Shut.mk ((hb.block _ (lt_blk HSP.out.is.blk)).trans HSP.out.is.blk)
          have HNWE := Shut.mk (show (rqC x V2 q3.fl).toArray.setIfInBounds (3 + (b * 7 + 0)) u' = (rqC x V4 (setF q3.fl b ⟨rr, (q3.fl b).df, (q3.fl b).cd⟩)).toArray by rw [hV4]; exact rq_set x V2 q3.fl HB16.out (by decide) u' u' _ rfl)
          have HXS := Shut.mk (show x.g < s16 from by have h1 := HS3.out.is.lt; have h2 := HSs16.out; omega)
          have HYE := Shut.mk (show wE.heap[s16]? = some (Obj.cells #[Value.int .i64 pi, .int .u32 pf, .int .i64 pt, .int .i64 pa, Value.slice aa mm cc] 35 (0, 0)) from by
           rw [hwE]
           exact (only_setRow wb x.g _).at_ ((hb.block _ (lt_blk HYwp.out)).trans HYwp.out) (fun e => by have := HXS.out; omega))
          have HEK3 := Shut.mk (show ElK T wE (.slice aa mm cc) pb from by
           rw [hwE]
           exact (HEK2.out.below hb).only (only_setRow wb x.g _) (fun k hk e => HSP.out.is.apt (e ▸ hk)))
          have HF4 := Shut.mk (show q4.fresh = q1.fresh ∧ q4.elder = q1.elder ∧ q4.fl = setF q1.fl b ⟨rr, (q1.fl b).df, c⟩ from by
           rw [hq4]
           refine ⟨HF3.out.1, HF3.out.2.1, ?_⟩
           dsimp only
           rw [HD3.out.1, HD3.out.2, HF3.out.2.2, setF_twice])
          clear hu hb hV4 hwE hq4
          go_wp2_with (refine wpList_store_into rfl 40 (.tmp 195) (.tmp 193) rfl x.g (3 + (b * 7 + 0)) u' rfl rfl (ownsP_one HU.out) 90 _ (rqC x V4 (setF q3.fl b ⟨rr, (q3.fl b).df, (q3.fl b).cd⟩)).toArray HBK3.out sizePs (by rw [rq_size]; have := HB16.out; omega) HNWE.out ?_; rw [HWE.out])
          obtain ⟨w8, hw8⟩ : ∃ wD, wD = World.drew wE := ⟨_, rfl⟩
          have HW8 := Shut.mk hw8
          have HD8 := Shut.mk (show Below wE.heap.size wE w8 by rw [hw8]; exact (Below.refl _ _).drew)
          have HS8 := Shut.mk (HSE.out.quiet HD8.out)
          have HY8 := Shut.mk ((HD8.out.block _ (lt_blk HYE.out)).trans HYE.out)
          have HEK8 := Shut.mk (HEK3.out.below HD8.out)
          have HDF8 := Shut.mk (show w8.cell? ⟨x.g, 3 + b * 7 + 1, none⟩ = some (.int .i64 (q1.fl b).df) from by
           rw [Nat.add_assoc]
           exact HS8.out.is.fl HB16.out (.int .i64 (q1.fl b).df) (j := 1) (by rw [HF4.out.2.2, setF_same]; rfl))
          obtain ⟨d4, hd4⟩ : ∃ d4, d4 = (q1.fl b).df - (mm : Int) := ⟨_, rfl⟩
          have yd : IntKind.i64.wrap ((q1.fl b).df - (mm : Int)) = d4 := by rw [IntWalk.i64_in _ ⟨by have := HFE.out.df b HB16.out; have := HMM.out; have := HPBL.out; omega, by have := HFE.out.df b HB16.out; omega⟩, hd4]
          have HD4 := Shut.mk hd4
          clear hd4 hw8
          obtain ⟨q5, hq5⟩ : ∃ q5 : Qu, q5 = ⟨setF q1.fl b ⟨rr, d4, c⟩, q1.fresh, q1.elder⟩ := ⟨_, rfl⟩
          have HQ5 := Shut.mk hq5
          have HF5 := Shut.mk (show q5.fl = setF q4.fl b ⟨(q4.fl b).pk, d4, (q4.fl b).cd⟩ from by rw [hq5, HF4.out.2.2]; dsimp only; rw [setF_twice, setF_same])
          have HNW8 := Shut.mk (rq_set x V4 q4.fl HB16.out (show 1 < 7 by decide) (.int .i64 d4) (V4 b) ⟨(q4.fl b).pk, d4, (q4.fl b).cd⟩ rfl)
          rw [updF_id, ← HF5.out] at HNW8
          have HS9 := Shut.mk (HS8.out.num (q2 := q5) (fun k _ => by
           rw [HF5.out]
           by_cases e : k = b
           ·subst e; rw [setF_same]
           ·rw [setF_other _ _ e]) (by rw [hq5, HF4.out.1]) (by rw [hq5, HF4.out.2.1]))
          clear hq5
          go_wp2_with (fail)
          refine wp_region_D (fun w' => w8 = w') 11 (by kernel_rfl) HW8.out (fun hHeld hC => ?_)
          rw [← HW8.out] at hHeld ⊢
          refine dP 0 hC hHeld ?_; clear hC; intro hC
          refine dP 1 hC hHeld ?_; clear hC; intro hC
          refine dP 2 hC hHeld ?_; clear hC; intro hC
          refine dP 3 hC hHeld ?_; clear hC; intro hC
          refine dT 4 hC hHeld (fun w hSw => (show w.cell? ⟨x.g, 3 + b * 7 + 1, none⟩ = some (.int .i64 (q1.fl b).df) from by rw [← hSw]; exact HDF8.out)) ?_; clear hC; intro hC
          refine dP 5 hC hHeld ?_; clear hC; intro hC
          refine dT 6 hC hHeld (fun w hSw => (show w.cell? ⟨s16, 4, none⟩ = some (Value.slice aa mm cc) from by rw [← hSw]; have := block_range HY8.out 4 _ rfl; simpa using this)) ?_; clear hC; intro hC
          refine dP 7 hC hHeld ?_; clear hC; intro hC
          refine dP 8 hC hHeld ?_; clear hC; intro hC
          refine dP 9 hC hHeld ?_; clear hC; intro hC
          refine dP 10 hC hHeld ?_; clear hC; intro hC
          refine wpAnyD_one (i := 11) (by kernel_rfl) rfl hC (fun K hK => ?_)
          clear hC
          refine step_store_into rfl 3 (.tmp 206) (.tmp 204) rfl x.g (3 + (b * 7 + 1)) (.int .i64 d4) rfl rfl rfl 90 _ (rqC x V4 q5.fl).toArray HS8.out.is.blk sizeI (by rw [rq_size]; have := HB16.out; omega) HNW8.out ?_
          obtain ⟨w8_1, hw9⟩ : ∃ wz, wz = w8.setRow x.g (rqC x V4 q5.fl).toArray := ⟨_, rfl⟩
          have HW9 := Shut.mk hw9
          rw [← hw9]
          clear hw9
          refine hK.out _ _ (past (by kernel_rfl)) (fun hC => ?_)
          clear hK K
          try simp only [Act.put, sG1, sG2, sG3, sG4, sG5, sG6]
          refine wpAnyD_done (by kernel_rfl) ?_ _
          try simp only [Act.put, sG1, sG2, sG3, sG4, sG5, sG6]
          clear hC hHeld
          rw [← HW9.out] at HS9
          have HY9 := Shut.mk (show w8_1.heap[s16]? = some (Obj.cells #[Value.int .i64 pi, .int .u32 pf, .int .i64 pt, .int .i64 pa, Value.slice aa mm cc] 35 (0, 0)) from by
           rw [HW9.out]
           exact (only_setRow w8 x.g _).at_ HY8.out (fun e => by have := HXS.out; omega))
          have HEK9 := Shut.mk (show ElK T w8_1 (.slice aa mm cc) pb from by
           rw [HW9.out]
           exact HEK8.out.only (only_setRow w8 x.g _) (fun k hk e => HS8.out.is.apt (e ▸ hk)))
          have HZ := Shut.mk (setRow_heap w8_1 s4 _ #[Value.int .i64 pi, .int .u32 pf, .int .i64 pt, .int .i64 pa, Value.slice aa mm cc] _ (0, 0) HS9.out.res)
          have HOZ := Shut.mk (only_setRow w8_1 s4 #[Value.int .i64 pi, .int .u32 pf, .int .i64 pt, .int .i64 pa, Value.slice aa mm cc])
          have HEKF := Shut.mk (HEK9.out.only HOZ.out (fun k hk e => by have := HS9.out.old k hk; omega))
          have HQF := Shut.mk (show q' = q5 from by
           rw [HQQ.out, HQ5.out]
           unfold tookQ
           rw [HGP.out, ← HRRD.out, HD4.out, HMM.out]
           rfl)
          clear yd
          go_wp2_with (first
           | (refine wpList_load_row rfl 35 (.tmp 16) rfl s16 rfl 35 #[Value.int .i64 pi, .int .u32 pf, .int .i64 pt, .int .i64 pa, Value.slice aa mm cc] (0, 0) _ HY9.out Tryz.underlying35 rfl size5 ?_)
           | (refine wpList_store_row rfl 35 (.tmp 4) (.tmp 207) rfl s4 #[Value.int .i64 pi, .int .u32 pf, .int .i64 pt, .int .i64 pa, Value.slice aa mm cc] rfl rfl 35 _ HS9.out.res size5 rfl (pkt_one _ _ _ _ _ _ _) ?_))
          refine bodyPost_ret (v := .tuple #[.agg #[Value.int .i64 pi, .int .u32 pf, .int .i64 pt, .int .i64 pa, Value.slice aa mm cc], u7, .bool true]) (results_ctt (p := 4) (q := 5) (r := 6) Tryz.results42 _ _ s4 _ _ _ _ _ _ rfl rfl rfl HZ.out Tryz.underlying35 rfl size5) rfl ⟨V4, u7, .slice aa mm cc, ?_, ?_, ?_, .inr ⟨⟨pi, pf, pt, pa, pb⟩, by rw [HRS.out, HGP.out], rfl, HEKF.out⟩⟩
          ·rw [HQF.out]
           exact HS9.out.is.only HOZ.out (fun j hj e => (HS9.out.ap j hj).1 e) (fun j hj e => by have := HS9.out.old j hj; omega)
          ·exact HS9.out.st.over HOZ.out fun j e => by have := HS9.out.sw; omega
          ·rw [HDSS.out]
           exact OwnP.base (OwnK.only HS9.out.own HOZ.out (fun j hj e => by obtain ⟨l', ho, -⟩ := HS9.out.own; have := (World.ownsRow.lt ho.1 j hj).1; omega) (fun j hj e => by have := HS9.out.old j hj; omega)) (by have := HS9.out.sw; omega)
end Go.Proofs.YtndkmgcmegcieaaGreatDoor
