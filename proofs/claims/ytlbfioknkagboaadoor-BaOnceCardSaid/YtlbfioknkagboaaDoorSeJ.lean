/-
  CONTRACT of ba's Fresh (a packet without bytes).
-/
import Derived.Test.YtlbfioknkagboaaDoorSeI
import Derived.LoopTactic
namespace Go.Proofs.YtlbfioknkagboaaDoor
open Go.ChangeShapes Go.WideShapes Go.ChangeAt Go.RowKit Go.Deep
set_option linter.unusedVariables false
set_option linter.unusedSimpArgs false

theorem sizePk : (Tryd.prog.info? 38).map (·.size) = some 5 := by kernel_rfl
theorem step_app_f {ops : Array Oper} {o : Oper} {a : Act} {w : World} {K : Act → World → Prop} {Q : Exit → Act → World → Prop} {E : Prop} (hgd : o.guard = none) (s x : Operand) (ho : o.op = .call { callee := .builtin .append, args := #[s, x], argTypes := #[76, 76] })
    (B : Nat) (lv : Value) (L : List Fm) (hs : a.eval s = lv) (hP : OwnS frC 9 w B 85 lv L.length L) (u : Fm) (ad : Addr) (c : Nat) (hx : a.eval x = .slice (some ad) 1 c) (hc : ∀ j q, (frC u)[j]? = some q → w.cell? (ad.add j) = some q) (hk : L.length ≤ 1000000) (hB : B ≤ w.heap.size)
    (h : ∀ v w', OwnS frC 9 w' B 85 v (L ++ [u]).length (L ++ [u]) → Only (fun j => lv.ownBlock = some j) w w' → (∀ g, v.ownBlock = some g → lv.ownBlock = some g ∨ g = w.heap.size) → K (a.put o.dst v) w') : if Region.wanted o (yielded ops a.tmps) = true then Oper.wp Tryd.prog o a w K Q else E := by
  obtain ⟨i0, hi0, hz0, hz1, hz2⟩ := info_parts' frame_info
  refine step_append_lies w hgd s x 76 ho B 85 i0 (.agg #[.int .i64 0, .int .u32 0, .int .i64 0, .int .i64 0, .slice none 0 0, .int .i64 0, .int .i64 0, .int .i64 0, .bool false]) 9 88 Tryd.underlying76 hi0 hz0 hz1 hz2 rfl (by omega) lv L.length _ hs hP.1 ad 1 c (frC u) hx rfl hc (frC_one u) (by omega) (by unfold maxLen; omega) (by omega) hB w.heap.size rfl ?_
  intro g cap w' hown hgrow hor hlt
  have hor' : lv.ownBlock = some g ∨ g = w.heap.size := hor
  refine h _ w' ⟨?_, rfl⟩ ((Only.refl _ w).grown hgrow fun k hk _ => hk) fun g' hg' => ?_
  · rw [List.flatMap_append, List.length_append]
    simpa using hown
  · have e1 : g' = g := by simpa [Value.ownBlock] using hg'.symm
    rw [e1]; exact hor'
section
variable {B : Nat} {w : World} {p : Sp} {s : Sb}
set_option maxRecDepth 100000 in
set_option maxHeartbeats 8000000 in
theorem fresh_ok (h : IsSe B w p s) (hi : InvB s) (hst : s.state ≠ 2) (ha : s.ask = false) (hg : s.x.gv < s.x.sz) (pi pf pt pa now : Int) (h0 : 0 ≤ now) (h1 : now ≤ 1000000000000) :
    Calls Tryd.prog 15 #[.pointer (some ⟨p.g, 0, none⟩), .agg #[.int .i64 pi, .int .u32 pf, .int .i64 pt, .int .i64 pa, .slice none 0 0], .int .i64 now] w fun e w' => e = .returned (.tuple #[.agg #[.int .i64 pi, .int .u32 pf, .int .i64 pt, .int .i64 pa, .slice none 0 0, .int .i64 ((nmW s.x s.x.gv : Nat) : Int), .int .i64 0, .int .i64 (now + s.life)], .nilIface]) ∧ ∃ v, IsSe B w' ⟨p.g, p.gw, v⟩ { s with x := nextW s.x, l := s.l ++ [(⟨⟨pi, pf, pt, pa, []⟩, nmW s.x s.x.gv, 0, now + s.life⟩, false)] } ∧ Only (FootS p) w w' ∧ (∀ k, v.ownBlock = some k → p.v.ownBlock = some k ∨ w.heap.size ≤ k) := by
  obtain ⟨-, -, c2, c3, -, c5, c6, c7, -⟩ := h.cells
  rw [ha] at c7
  have HSE := Shut.mk h
  have HNB := Shut.mk (And.intro h0 h1)
  have HLL := Shut.mk (show s.l.length ≤ 1000000 by have := hi.len; omega)
  have hst2 : (((s.state : Nat) : Int) == 2) = false := by simp; omega
  obtain ⟨lf, hlf⟩ : ∃ lf, lf = s.life := ⟨_, rfl⟩
  have HLF := Shut.mk hlf
  have HLB := Shut.mk (show 1 ≤ lf ∧ lf ≤ 1099511627776 by rw [hlf]; exact hi.life)
  obtain ⟨tl, htl⟩ : ∃ tl, tl = now + lf := ⟨_, rfl⟩
  have HTL := Shut.mk htl.symm
  obtain ⟨n, hn⟩ : ∃ n, n = nmW s.x s.x.gv := ⟨_, rfl⟩
  have HNN := Shut.mk hn
  have HCP := Shut.mk (fun wq : World => (show Calls Tryd.prog 36 #[.agg #[.int .i64 pi, .int .u32 pf, .int .i64 pt, .int .i64 pa, .slice none 0 0, .int .i64 ((n : Nat) : Int), .int .i64 0, .int .i64 tl]] wq (fun e w' => e = .returned (.agg #[.int .i64 pi, .int .u32 pf, .int .i64 pt, .int .i64 pa, .slice none 0 0, .int .i64 ((n : Nat) : Int), .int .i64 0, .int .i64 tl]) ∧ Below wq.heap.size wq w') from copied_any pi pf pt pa tl n 0 wq))
  rw [← hlf] at c2
  rw [show now + s.life = tl by rw [htl, hlf], ← hn]
  have HFT := Shut.mk h.foot
  have HI := Shut.mk hi
  have HG := Shut.mk hg
  have H2 := Shut.mk (two_alloc w (Obj.cells #[.int .i64 pi, .int .u32 pf, .int .i64 pt, .int .i64 pa, .slice none 0 0] 38 (0, 0)) (Obj.cells #[.int .i64 0, .int .u32 0, .int .i64 0, .int .i64 0, .slice none 0 0, .int .i64 0, .int .i64 0, .int .i64 0] 40 (0, 0)))
  have k2 := below_at H2.out.1 c2
  have k3 := below_at H2.out.1 c3
  have k5 := below_at H2.out.1 c5
  have k6 := below_at H2.out.1 c6
  have k7 := below_at H2.out.1 c7
  clear h ha hst hi hg h0 h1 hlf htl hn c2 c3 c5 c6 c7
  go_enter Tryd.func15, Tryd.ntmps15
  go_wp2_with (fail)
  have HB1 := Shut.mk H2.out.1
  have HPK1 := Shut.mk (block_range H2.out.2.1)
  have HRS1 := Shut.mk H2.out.2.2.1
  generalize (w.alloc _).alloc _ = w1 at *
  have HL1 := Shut.mk k2
  have HC1 := Shut.mk k6
  have HSE1 := Shut.mk (HSE.out.below HB1.out)
  obtain ⟨s0, hs0⟩ : ∃ s0, s0 = w.heap.size := ⟨_, rfl⟩
  have HS0 := Shut.mk hs0.symm
  have HPG := Shut.mk (show p.g < s0 by rw [hs0]; exact (HFT.out _ (.inl rfl)).2)
  have HPW := Shut.mk (show p.gw < s0 by rw [hs0]; exact (HFT.out _ (.inr (.inl rfl))).2)
  have HOWN := Shut.mk (show ∀ j, p.v.ownBlock = some j → j < s0 from fun j hj => by rw [hs0]; exact (HFT.out _ (.inr (.inr hj))).2)
  have HBL := Shut.mk (show B ≤ s0 by have := HSE.out.lo.1; have := HPG.out; omega)
  rw [← hs0] at HPK1 HRS1 HB1 ⊢
  clear hs0 k2 k3 k5 k6 k7
  refine (next_ok p.gw s.x w1 HSE1.out.win HI.out.inv.inv HG.out).mono ?_
  rintro e w2 ⟨rfl, hx, ho⟩
  rw [← HNN.out]
  have HX2 := Shut.mk hx
  have HO2 := Shut.mk ho
  have HPK2 := Shut.mk (ho.range HPK1.out (fun e => by have := HPW.out; have e2 : s0 = p.gw := e; omega))
  have HRS2 := Shut.mk (ho.at_ HRS1.out (fun e => by have := HPW.out; have e2 : s0 + 1 = p.gw := e; omega))
  have HL2 := Shut.mk (ho.cell HL1.out (fun e => HSE.out.ne e))
  have HC2 := Shut.mk (ho.cell HC1.out (fun e => HSE.out.ne e))
  have HBK2 := Shut.mk (ho.at_ HSE1.out.blk (fun e => HSE.out.ne e))
  have HROW2 := Shut.mk (own_only HSE1.out.row ho (fun g hg e => (HSE.out.ng g hg).2 e))
  have HBL2 := Shut.mk (show B ≤ w2.heap.size by have h1 := HBL.out; have h2 := HB1.out.size; have h3 := ho.size; have h4 := HS0.out; omega)
  clear hx ho
  go_wp2_with (fail)
  go_cut [10] from 37 to 43 (fun s10 wx => ∃ k, s10 = .pointer (some ⟨k, 0, none⟩) ∧ wx.heap[k]? = some (.cells #[.int .i64 pi, .int .u32 pf, .int .i64 pt, .int .i64 pa, .slice none 0 0, .int .i64 ((n : Nat) : Int), .int .i64 0, .int .i64 tl] 40 (0, 0)) ∧ Below w2.heap.size w2 wx ∧ w2.heap.size ≤ k)
  case first =>
    obtain ⟨w5, hw5⟩ : ∃ w5, w5 = World.drew w2 := ⟨_, rfl⟩
    have HW5 := Shut.mk hw5
    have HD5 := Shut.mk (show Below w2.heap.size w2 w5 by rw [hw5]; exact (Below.refl _ _).drew)
    have HPK := Shut.mk (range_below (B := 0) HPK2.out HD5.out)
    have HL5 := Shut.mk (below_at HD5.out HL2.out)
    clear hw5
    refine wp_region_D (fun w' => Below w5.heap.size w5 w') 8 (by kernel_rfl) (show Below w5.heap.size w5 (World.drew w2) by rw [HW5.out]; exact Below.refl _ _) (fun hHeld hC => ?_)
    rw [← HW5.out] at hHeld ⊢
    refine wpAnyD_take (i := 0) (v := .agg ([Value.int .i64 pi, .int .u32 pf, .int .i64 pt, .int .i64 pa, .slice none 0 0]).toArray) 40 rfl (by kernel_rfl) hC (by kernel_rfl) (by kernel_rfl) (by kernel_rfl) (by decide) (fun _ _ _ h => h) (yieldsIf_load_mid (by rfl) 38 (.tmp 4) rfl s0 (0) rfl ([Value.int .i64 pi, .int .u32 pf, .int .i64 pt, .int .i64 pa, .slice none 0 0]) _ (fun w' hSw => range_below (B := 0) HPK.out hSw) Tryd.underlying38 rfl sizePk) (fun _ => hHeld) ?_
    try simp only [Act.put, List.getElem_toArray, List.getElem_cons_zero, List.getElem_cons_succ, List.setIfInBounds_toArray, List.set_cons_zero, List.set_cons_succ]
    clear hC
    intro hC
    refine wpAnyD_pure (i := 1) (v := ?_) rfl hC (by kernel_rfl) (by kernel_rfl) (by kernel_rfl) (by decide) (fun _ _ _ h => h) (Or.inl ⟨by rfl, ?_⟩) (fun _ => hHeld) ?_
    rotate_left
    · intro w hSw
      clear hSw
      go_simp
      try with_reducible rfl
    try simp only [Act.put, List.getElem_toArray, List.getElem_cons_zero, List.getElem_cons_succ, List.setIfInBounds_toArray, List.set_cons_zero, List.set_cons_succ]
    clear hC
    intro hC
    refine wpAnyD_pure (i := 2) (v := ?_) rfl hC (by kernel_rfl) (by kernel_rfl) (by kernel_rfl) (by decide) (fun _ _ _ h => h) (Or.inl ⟨by rfl, ?_⟩) (fun _ => hHeld) ?_
    rotate_left
    · intro w hSw
      clear hSw
      go_simp
      try with_reducible rfl
    try simp only [Act.put, List.getElem_toArray, List.getElem_cons_zero, List.getElem_cons_succ, List.setIfInBounds_toArray, List.set_cons_zero, List.set_cons_succ]
    clear hC
    intro hC
    refine wpAnyD_pure (i := 3) (v := ?_) rfl hC (by kernel_rfl) (by kernel_rfl) (by kernel_rfl) (by decide) (fun _ _ _ h => h) (Or.inl ⟨by rfl, ?_⟩) (fun _ => hHeld) ?_
    rotate_left
    · intro w hSw
      clear hSw
      go_simp
      try with_reducible rfl
    try simp only [Act.put, List.getElem_toArray, List.getElem_cons_zero, List.getElem_cons_succ, List.setIfInBounds_toArray, List.set_cons_zero, List.set_cons_succ]
    clear hC
    intro hC
    refine wpAnyD_all (rs := [4, 7]) (by kernel_rfl) (by simp) hC (all_cons ⟨_, rfl, fun K hK => ?_⟩ (all_cons ⟨_, rfl, fun K hK => ?_⟩ all_nil))
    · clear hC
      go_simp
      refine (until_any p.g lf now w5 (below_at hHeld HL5.out) HLB.out.1 HLB.out.2 HNB.out.1 HNB.out.2).mono ?_
      rintro e' wv1 ⟨rfl, hwv1⟩
      subst hwv1
      rw [HTL.out]
      have hHeld2 := hHeld
      clear hHeld
      have hHeld := hHeld2
      clear hHeld2
      refine hK.out _ _ (fun _ => hHeld) (fun hC => ?_)
      clear hK K
      try simp only [Act.put, List.getElem_toArray, List.getElem_cons_zero, List.getElem_cons_succ, List.setIfInBounds_toArray, List.set_cons_zero, List.set_cons_succ]
      refine wpAnyD_pure (i := 5) (v := ?_) rfl hC (by kernel_rfl) (by kernel_rfl) (by kernel_rfl) (by decide) (fun _ _ _ h => h) (Or.inl ⟨by rfl, ?_⟩) (fun _ => hHeld) ?_
      rotate_left
      · intro w hSw
        clear hSw
        go_simp
        try with_reducible rfl
      try simp only [Act.put, List.getElem_toArray, List.getElem_cons_zero, List.getElem_cons_succ, List.setIfInBounds_toArray, List.set_cons_zero, List.set_cons_succ]
      clear hC
      intro hC
      refine wpAnyD_all (rs := [6, 7]) (by kernel_rfl) (by simp) hC (all_cons ⟨_, rfl, fun K hK => ?_⟩ (all_cons ⟨_, rfl, fun K hK => ?_⟩ all_nil))
      · clear hC
        go_simp
        refine (HCP.out w5).mono ?_
        rintro e' wv1 ⟨rfl, hb⟩
        have HKD := Shut.mk hb
        clear hb
        have hHeld2 := hHeld.trans (HKD.out.mono hHeld.size)
        clear hHeld
        have hHeld := hHeld2
        clear hHeld2
        refine hK.out _ _ (fun _ => hHeld) (fun hC => ?_)
        clear hK K
        try simp only [Act.put, List.getElem_toArray, List.getElem_cons_zero, List.getElem_cons_succ, List.setIfInBounds_toArray, List.set_cons_zero, List.set_cons_succ]
        refine wpAnyD_one (i := 7) (by kernel_rfl) rfl hC (fun K hK => ?_)
        clear hC
        go_simp
        have HAwv2 := Shut.mk ((Below.refl wv1.heap.size wv1).alloc (Nat.le_refl _) (Obj.cells #[.int .i64 0, .int .u32 0, .int .i64 0, .int .i64 0, .slice none 0 0, .int .i64 0, .int .i64 0, .int .i64 0] 40 (0, 0)))
        have HXwv2 := Shut.mk (show (World.alloc wv1 (Obj.cells #[.int .i64 0, .int .u32 0, .int .i64 0, .int .i64 0, .slice none 0 0, .int .i64 0, .int .i64 0, .int .i64 0] 40 (0, 0))).heap[wv1.heap.size]? = some (.cells ([] ++ ([.int .i64 0, .int .u32 0, .int .i64 0, .int .i64 0, .slice none 0 0, .int .i64 0, .int .i64 0, .int .i64 0] : List Value) ++ []).toArray 40 (0, 0)) from (MapKept.heap_alloc wv1 (Obj.cells #[.int .i64 0, .int .u32 0, .int .i64 0, .int .i64 0, .slice none 0 0, .int .i64 0, .int .i64 0, .int .i64 0] 40 (0, 0))).1)
        generalize World.alloc wv1 _ = wv2 at *
        obtain ⟨k10, hk10⟩ : ∃ s, s = wv1.heap.size := ⟨_, rfl⟩
        have HK10 := Shut.mk (show w5.heap.size ≤ k10 by rw [hk10]; exact hHeld.size)
        rw [← hk10] at HXwv2 ⊢
        clear hk10
        have hHeld2 := hHeld.trans (HAwv2.out.mono hHeld.size)
        clear hHeld
        have hHeld := hHeld2
        clear hHeld2
        refine hK.out _ _ (fun _ => hHeld) (fun hC => ?_)
        clear hK K
        try simp only [Act.put, List.getElem_toArray, List.getElem_cons_zero, List.getElem_cons_succ, List.setIfInBounds_toArray, List.set_cons_zero, List.set_cons_succ]
        refine wpAnyD_one (i := 8) (by kernel_rfl) rfl hC (fun K hK => ?_)
        clear hC
        refine step_store_part rfl 40 (.tmp 10) (.tmp 43) rfl k10 0 (.agg #[.int .i64 pi, .int .u32 pf, .int .i64 pt, .int .i64 pa, .slice none 0 0, .int .i64 ((n : Nat) : Int), .int .i64 0, .int .i64 tl]) rfl rfl 40 [] ([.int .i64 0, .int .u32 0, .int .i64 0, .int .i64 0, .slice none 0 0, .int .i64 0, .int .i64 0, .int .i64 0] : List Value) ([.int .i64 pi, .int .u32 pf, .int .i64 pt, .int .i64 pa, .slice none 0 0, .int .i64 ((n : Nat) : Int), .int .i64 0, .int .i64 tl] : List Value) [] HXwv2.out rfl rfl rfl sizeM (by intro u hu; simp only [List.mem_cons, List.not_mem_nil, or_false] at hu; rcases hu with rfl | rfl | rfl | rfl | rfl | rfl | rfl | rfl <;> rfl) ?_
        have HXN := Shut.mk (setRow_heap wv2 k10 _ ([] ++ ([.int .i64 pi, .int .u32 pf, .int .i64 pt, .int .i64 pa, .slice none 0 0, .int .i64 ((n : Nat) : Int), .int .i64 0, .int .i64 tl] : List Value) ++ []).toArray _ (0, 0) HXwv2.out)
        have HBN := Shut.mk (below_setRow hHeld HK10.out ([] ++ ([.int .i64 pi, .int .u32 pf, .int .i64 pt, .int .i64 pa, .slice none 0 0, .int .i64 ((n : Nat) : Int), .int .i64 0, .int .i64 tl] : List Value) ++ []).toArray)
        generalize hq : World.setRow wv2 k10 _ = wv3 at *
        clear hq
        refine hK.out _ _ (past (by kernel_rfl)) (fun hC => ?_)
        clear hK K
        try simp only [Act.put, List.getElem_toArray, List.getElem_cons_zero, List.getElem_cons_succ, List.setIfInBounds_toArray, List.set_cons_zero, List.set_cons_succ]
        refine wpAnyD_done (by kernel_rfl) ?_ _
        try simp only [Act.put, List.getElem_toArray, List.getElem_cons_zero, List.getElem_cons_succ, List.setIfInBounds_toArray, List.set_cons_zero, List.set_cons_succ]
        go_wp2_with (fail)
        go_meet
        exact ⟨k10, rfl, HXN.out, HD5.out.trans (HBN.out.mono HD5.out.size), Nat.le_trans HD5.out.size HK10.out⟩
      · clear hC
        go_simp
        have HAwv1 := Shut.mk ((Below.refl w5.heap.size w5).alloc (Nat.le_refl _) (Obj.cells #[.int .i64 0, .int .u32 0, .int .i64 0, .int .i64 0, .slice none 0 0, .int .i64 0, .int .i64 0, .int .i64 0] 40 (0, 0)))
        have HXwv1 := Shut.mk (show (World.alloc w5 (Obj.cells #[.int .i64 0, .int .u32 0, .int .i64 0, .int .i64 0, .slice none 0 0, .int .i64 0, .int .i64 0, .int .i64 0] 40 (0, 0))).heap[w5.heap.size]? = some (.cells ([] ++ ([.int .i64 0, .int .u32 0, .int .i64 0, .int .i64 0, .slice none 0 0, .int .i64 0, .int .i64 0, .int .i64 0] : List Value) ++ []).toArray 40 (0, 0)) from (MapKept.heap_alloc w5 (Obj.cells #[.int .i64 0, .int .u32 0, .int .i64 0, .int .i64 0, .slice none 0 0, .int .i64 0, .int .i64 0, .int .i64 0] 40 (0, 0))).1)
        generalize World.alloc w5 _ = wv1 at *
        obtain ⟨k10, hk10⟩ : ∃ s, s = w5.heap.size := ⟨_, rfl⟩
        have HK10 := Shut.mk (show w5.heap.size ≤ k10 by rw [hk10]; exact hHeld.size)
        rw [← hk10] at HXwv1 ⊢
        clear hk10
        have hHeld2 := hHeld.trans (HAwv1.out.mono hHeld.size)
        clear hHeld
        have hHeld := hHeld2
        clear hHeld2
        refine hK.out _ _ (fun _ => hHeld) (fun hC => ?_)
        clear hK K
        try simp only [Act.put, List.getElem_toArray, List.getElem_cons_zero, List.getElem_cons_succ, List.setIfInBounds_toArray, List.set_cons_zero, List.set_cons_succ]
        refine wpAnyD_one (i := 6) (by kernel_rfl) rfl hC (fun K hK => ?_)
        clear hC
        go_simp
        refine (HCP.out wv1).mono ?_
        rintro e' wv2 ⟨rfl, hb⟩
        have HKD := Shut.mk hb
        clear hb
        have HXwv2 := Shut.mk ((HKD.out.block _ (lt_blk HXwv1.out)).trans HXwv1.out)
        have hHeld2 := hHeld.trans (HKD.out.mono hHeld.size)
        clear hHeld
        have hHeld := hHeld2
        clear hHeld2
        refine hK.out _ _ (fun _ => hHeld) (fun hC => ?_)
        clear hK K
        try simp only [Act.put, List.getElem_toArray, List.getElem_cons_zero, List.getElem_cons_succ, List.setIfInBounds_toArray, List.set_cons_zero, List.set_cons_succ]
        refine wpAnyD_one (i := 8) (by kernel_rfl) rfl hC (fun K hK => ?_)
        clear hC
        refine step_store_part rfl 40 (.tmp 10) (.tmp 43) rfl k10 0 (.agg #[.int .i64 pi, .int .u32 pf, .int .i64 pt, .int .i64 pa, .slice none 0 0, .int .i64 ((n : Nat) : Int), .int .i64 0, .int .i64 tl]) rfl rfl 40 [] ([.int .i64 0, .int .u32 0, .int .i64 0, .int .i64 0, .slice none 0 0, .int .i64 0, .int .i64 0, .int .i64 0] : List Value) ([.int .i64 pi, .int .u32 pf, .int .i64 pt, .int .i64 pa, .slice none 0 0, .int .i64 ((n : Nat) : Int), .int .i64 0, .int .i64 tl] : List Value) [] HXwv2.out rfl rfl rfl sizeM (by intro u hu; simp only [List.mem_cons, List.not_mem_nil, or_false] at hu; rcases hu with rfl | rfl | rfl | rfl | rfl | rfl | rfl | rfl <;> rfl) ?_
        have HXN := Shut.mk (setRow_heap wv2 k10 _ ([] ++ ([.int .i64 pi, .int .u32 pf, .int .i64 pt, .int .i64 pa, .slice none 0 0, .int .i64 ((n : Nat) : Int), .int .i64 0, .int .i64 tl] : List Value) ++ []).toArray _ (0, 0) HXwv2.out)
        have HBN := Shut.mk (below_setRow hHeld HK10.out ([] ++ ([.int .i64 pi, .int .u32 pf, .int .i64 pt, .int .i64 pa, .slice none 0 0, .int .i64 ((n : Nat) : Int), .int .i64 0, .int .i64 tl] : List Value) ++ []).toArray)
        generalize hq : World.setRow wv2 k10 _ = wv3 at *
        clear hq
        refine hK.out _ _ (past (by kernel_rfl)) (fun hC => ?_)
        clear hK K
        try simp only [Act.put, List.getElem_toArray, List.getElem_cons_zero, List.getElem_cons_succ, List.setIfInBounds_toArray, List.set_cons_zero, List.set_cons_succ]
        refine wpAnyD_done (by kernel_rfl) ?_ _
        try simp only [Act.put, List.getElem_toArray, List.getElem_cons_zero, List.getElem_cons_succ, List.setIfInBounds_toArray, List.set_cons_zero, List.set_cons_succ]
        go_wp2_with (fail)
        go_meet
        exact ⟨k10, rfl, HXN.out, HD5.out.trans (HBN.out.mono HD5.out.size), Nat.le_trans HD5.out.size HK10.out⟩
    · clear hC
      go_simp
      have HAwv1 := Shut.mk ((Below.refl w5.heap.size w5).alloc (Nat.le_refl _) (Obj.cells #[.int .i64 0, .int .u32 0, .int .i64 0, .int .i64 0, .slice none 0 0, .int .i64 0, .int .i64 0, .int .i64 0] 40 (0, 0)))
      have HXwv1 := Shut.mk (show (World.alloc w5 (Obj.cells #[.int .i64 0, .int .u32 0, .int .i64 0, .int .i64 0, .slice none 0 0, .int .i64 0, .int .i64 0, .int .i64 0] 40 (0, 0))).heap[w5.heap.size]? = some (.cells ([] ++ ([.int .i64 0, .int .u32 0, .int .i64 0, .int .i64 0, .slice none 0 0, .int .i64 0, .int .i64 0, .int .i64 0] : List Value) ++ []).toArray 40 (0, 0)) from (MapKept.heap_alloc w5 (Obj.cells #[.int .i64 0, .int .u32 0, .int .i64 0, .int .i64 0, .slice none 0 0, .int .i64 0, .int .i64 0, .int .i64 0] 40 (0, 0))).1)
      generalize World.alloc w5 _ = wv1 at *
      obtain ⟨k10, hk10⟩ : ∃ s, s = w5.heap.size := ⟨_, rfl⟩
      have HK10 := Shut.mk (show w5.heap.size ≤ k10 by rw [hk10]; exact hHeld.size)
      rw [← hk10] at HXwv1 ⊢
      clear hk10
      have hHeld2 := hHeld.trans (HAwv1.out.mono hHeld.size)
      clear hHeld
      have hHeld := hHeld2
      clear hHeld2
      refine hK.out _ _ (fun _ => hHeld) (fun hC => ?_)
      clear hK K
      try simp only [Act.put, List.getElem_toArray, List.getElem_cons_zero, List.getElem_cons_succ, List.setIfInBounds_toArray, List.set_cons_zero, List.set_cons_succ]
      refine wpAnyD_one (i := 4) (by kernel_rfl) rfl hC (fun K hK => ?_)
      clear hC
      go_simp
      refine (until_any p.g lf now wv1 (below_at hHeld HL5.out) HLB.out.1 HLB.out.2 HNB.out.1 HNB.out.2).mono ?_
      rintro e' wv2 ⟨rfl, hwv2⟩
      subst hwv2
      rw [HTL.out]
      have hHeld2 := hHeld
      clear hHeld
      have hHeld := hHeld2
      clear hHeld2
      refine hK.out _ _ (fun _ => hHeld) (fun hC => ?_)
      clear hK K
      try simp only [Act.put, List.getElem_toArray, List.getElem_cons_zero, List.getElem_cons_succ, List.setIfInBounds_toArray, List.set_cons_zero, List.set_cons_succ]
      refine wpAnyD_pure (i := 5) (v := ?_) rfl hC (by kernel_rfl) (by kernel_rfl) (by kernel_rfl) (by decide) (fun _ _ _ h => h) (Or.inl ⟨by rfl, ?_⟩) (fun _ => hHeld) ?_
      rotate_left
      · intro w hSw
        clear hSw
        go_simp
        try with_reducible rfl
      try simp only [Act.put, List.getElem_toArray, List.getElem_cons_zero, List.getElem_cons_succ, List.setIfInBounds_toArray, List.set_cons_zero, List.set_cons_succ]
      clear hC
      intro hC
      refine wpAnyD_one (i := 6) (by kernel_rfl) rfl hC (fun K hK => ?_)
      clear hC
      go_simp
      refine (HCP.out wv1).mono ?_
      rintro e' wv2 ⟨rfl, hb⟩
      have HKD := Shut.mk hb
      clear hb
      have HXwv2 := Shut.mk ((HKD.out.block _ (lt_blk HXwv1.out)).trans HXwv1.out)
      have hHeld2 := hHeld.trans (HKD.out.mono hHeld.size)
      clear hHeld
      have hHeld := hHeld2
      clear hHeld2
      refine hK.out _ _ (fun _ => hHeld) (fun hC => ?_)
      clear hK K
      try simp only [Act.put, List.getElem_toArray, List.getElem_cons_zero, List.getElem_cons_succ, List.setIfInBounds_toArray, List.set_cons_zero, List.set_cons_succ]
      refine wpAnyD_one (i := 8) (by kernel_rfl) rfl hC (fun K hK => ?_)
      clear hC
      refine step_store_part rfl 40 (.tmp 10) (.tmp 43) rfl k10 0 (.agg #[.int .i64 pi, .int .u32 pf, .int .i64 pt, .int .i64 pa, .slice none 0 0, .int .i64 ((n : Nat) : Int), .int .i64 0, .int .i64 tl]) rfl rfl 40 [] ([.int .i64 0, .int .u32 0, .int .i64 0, .int .i64 0, .slice none 0 0, .int .i64 0, .int .i64 0, .int .i64 0] : List Value) ([.int .i64 pi, .int .u32 pf, .int .i64 pt, .int .i64 pa, .slice none 0 0, .int .i64 ((n : Nat) : Int), .int .i64 0, .int .i64 tl] : List Value) [] HXwv2.out rfl rfl rfl sizeM (by intro u hu; simp only [List.mem_cons, List.not_mem_nil, or_false] at hu; rcases hu with rfl | rfl | rfl | rfl | rfl | rfl | rfl | rfl <;> rfl) ?_
      have HXN := Shut.mk (setRow_heap wv2 k10 _ ([] ++ ([.int .i64 pi, .int .u32 pf, .int .i64 pt, .int .i64 pa, .slice none 0 0, .int .i64 ((n : Nat) : Int), .int .i64 0, .int .i64 tl] : List Value) ++ []).toArray _ (0, 0) HXwv2.out)
      have HBN := Shut.mk (below_setRow hHeld HK10.out ([] ++ ([.int .i64 pi, .int .u32 pf, .int .i64 pt, .int .i64 pa, .slice none 0 0, .int .i64 ((n : Nat) : Int), .int .i64 0, .int .i64 tl] : List Value) ++ []).toArray)
      generalize hq : World.setRow wv2 k10 _ = wv3 at *
      clear hq
      refine hK.out _ _ (past (by kernel_rfl)) (fun hC => ?_)
      clear hK K
      try simp only [Act.put, List.getElem_toArray, List.getElem_cons_zero, List.getElem_cons_succ, List.setIfInBounds_toArray, List.set_cons_zero, List.set_cons_succ]
      refine wpAnyD_done (by kernel_rfl) ?_ _
      try simp only [Act.put, List.getElem_toArray, List.getElem_cons_zero, List.getElem_cons_succ, List.setIfInBounds_toArray, List.set_cons_zero, List.set_cons_succ]
      go_wp2_with (fail)
      go_meet
      exact ⟨k10, rfl, HXN.out, HD5.out.trans (HBN.out.mono HD5.out.size), Nat.le_trans HD5.out.size HK10.out⟩
  case rest =>
    obtain ⟨k10, rfl, hmx, hbx, hkx⟩ := hcut
    have HBX := Shut.mk hbx
    have HK10 := Shut.mk (show s0 + 2 ≤ k10 by have h1 := lt_blk HRS2.out; omega)
    obtain ⟨w5, hw5⟩ : ∃ w5, w5 = World.drew wc := ⟨_, rfl⟩
    have HW5 := Shut.mk hw5
    have HD5 := Shut.mk (show Below wc.heap.size wc w5 by rw [hw5]; exact (Below.refl _ _).drew)
    have HMB5 := Shut.mk ((HD5.out.block _ (lt_blk hmx)).trans hmx)
    have HMX := Shut.mk (block_range HMB5.out)
    have HC6 := Shut.mk (below_at HD5.out (below_at hbx HC2.out))
    have hbk := (hbx.block _ (lt_blk HBK2.out)).trans HBK2.out
    have HBK5 := Shut.mk (show w5.heap[p.g]? = some (.cells #[.int .i64 ((s.size : Nat) : Int), .int .i64 ((s.retry : Nat) : Int), .int .i64 s.life, .int .i64 ((s.state : Nat) : Int), .int .i64 s.token, .pointer (some ⟨p.gw, 0, none⟩), p.v, .bool s.ask, .int .i64 ((s.fr : Nat) : Int), .int .i64 ((s.vain : Nat) : Int)] 80 (0, 0)) from (HD5.out.block _ (lt_blk hbk)).trans hbk)
    have hrs := (hbx.block _ (lt_blk HRS2.out)).trans HRS2.out
    have HRS5 := Shut.mk ((HD5.out.block _ (lt_blk hrs)).trans hrs)
    have HROW5 := Shut.mk (OwnS.below (OwnS.below HROW2.out hbx) HD5.out)
    have HBL := Shut.mk (show B ≤ w5.heap.size by have h1 := HBL2.out; have h2 := hbx.size; have h3 := HD5.out.size; omega)
    clear hw5 hmx hbx hkx hbk hrs
    go_wp2_with (fail)
    refine wp_region_D (fun w' => Below w5.heap.size w5 w') 8 (by kernel_rfl) (show Below w5.heap.size w5 (World.drew wc) by rw [HW5.out]; exact Below.refl _ _) (fun hHeld hC => ?_)
    rw [← HW5.out] at hHeld ⊢
    refine wpAnyD_pure (i := 0) (v := ?_) rfl hC (by kernel_rfl) (by kernel_rfl) (by kernel_rfl) (by decide) (fun _ _ _ h => h) (Or.inl ⟨by rfl, ?_⟩) (fun _ => hHeld) ?_
    rotate_left
    · intro w hSw
      clear hSw
      go_simp
      try with_reducible rfl
    try simp only [Act.put, List.getElem_toArray, List.getElem_cons_zero, List.getElem_cons_succ, List.setIfInBounds_toArray, List.set_cons_zero, List.set_cons_succ]
    clear hC
    intro hC
    refine wpAnyD_pure (i := 1) (v := ?_) rfl hC (by kernel_rfl) (by kernel_rfl) (by kernel_rfl) (by decide) (fun _ _ _ h => h) (Or.inl ⟨by rfl, ?_⟩) (fun _ => hHeld) ?_
    rotate_left
    · intro w hSw
      clear hSw
      go_simp
      try with_reducible rfl
    try simp only [Act.put, List.getElem_toArray, List.getElem_cons_zero, List.getElem_cons_succ, List.setIfInBounds_toArray, List.set_cons_zero, List.set_cons_succ]
    clear hC
    intro hC
    refine wpAnyD_pure (i := 2) (v := ?_) rfl hC (by kernel_rfl) (by kernel_rfl) (by kernel_rfl) (by decide) (fun _ _ _ h => h) (Or.inl ⟨by rfl, ?_⟩) (fun _ => hHeld) ?_
    rotate_left
    · intro w hSw
      clear hSw
      go_simp
      try with_reducible rfl
    try simp only [Act.put, List.getElem_toArray, List.getElem_cons_zero, List.getElem_cons_succ, List.setIfInBounds_toArray, List.set_cons_zero, List.set_cons_succ]
    clear hC
    intro hC
    refine wpAnyD_pure (i := 3) (v := ?_) rfl hC (by kernel_rfl) (by kernel_rfl) (by kernel_rfl) (by decide) (fun _ _ _ h => h) (Or.inl ⟨by rfl, ?_⟩) (fun _ => hHeld) ?_
    rotate_left
    · intro w hSw
      clear hSw
      go_simp
      try with_reducible rfl
    try simp only [Act.put, List.getElem_toArray, List.getElem_cons_zero, List.getElem_cons_succ, List.setIfInBounds_toArray, List.set_cons_zero, List.set_cons_succ]
    clear hC
    intro hC
    refine wpAnyD_take (i := 4) (v := ?_) 40 rfl (by kernel_rfl) hC (by kernel_rfl) (by kernel_rfl) (by kernel_rfl) (by decide) (fun _ _ _ h => h) (Or.inl ⟨by rfl, ?_⟩) (fun _ => hHeld) ?_
    rotate_left
    · intro w hSw
      have hz := (show w.cell? ⟨p.g, 6, none⟩ = some p.v from below_at hSw HC6.out)
      clear hSw
      go_simp
      try with_reducible rfl
    try simp only [Act.put, List.getElem_toArray, List.getElem_cons_zero, List.getElem_cons_succ, List.setIfInBounds_toArray, List.set_cons_zero, List.set_cons_succ]
    clear hC
    intro hC
    refine wpAnyD_take (i := 5) (v := .agg ([Value.int .i64 pi, .int .u32 pf, .int .i64 pt, .int .i64 pa, .slice none 0 0, .int .i64 ((n : Nat) : Int), .int .i64 0, .int .i64 tl]).toArray) 40 rfl (by kernel_rfl) hC (by kernel_rfl) (by kernel_rfl) (by kernel_rfl) (by decide) (fun _ _ _ h => h) (yieldsIf_load_mid (by rfl) 40 (.tmp 10) rfl k10 (0) rfl ([Value.int .i64 pi, .int .u32 pf, .int .i64 pt, .int .i64 pa, .slice none 0 0, .int .i64 ((n : Nat) : Int), .int .i64 0, .int .i64 tl]) _ (fun w' hSw => range_below (B := 0) HMX.out hSw) Tryd.underlying40 rfl sizeM) (fun _ => hHeld) ?_
    try simp only [Act.put, List.getElem_toArray, List.getElem_cons_zero, List.getElem_cons_succ, List.setIfInBounds_toArray, List.set_cons_zero, List.set_cons_succ]
    clear hC
    intro hC
    refine wpAnyD_pure (i := 6) (v := ?_) rfl hC (by kernel_rfl) (by kernel_rfl) (by kernel_rfl) (by decide) (fun _ _ _ h => h) (Or.inl ⟨by rfl, ?_⟩) (fun _ => hHeld) ?_
    rotate_left
    · intro w hSw
      clear hSw
      go_simp
      try with_reducible rfl
    try simp only [Act.put, List.getElem_toArray, List.getElem_cons_zero, List.getElem_cons_succ, List.setIfInBounds_toArray, List.set_cons_zero, List.set_cons_succ]
    clear hC
    intro hC
    refine wpAnyD_one (i := 7) (by kernel_rfl) rfl hC (fun K hK => ?_)
    clear hC
    go_simp
    have HA7 := Shut.mk ((Below.refl w5.heap.size w5).alloc (Nat.le_refl _) (Obj.cells #[.int .i64 pi, .int .u32 pf, .int .i64 pt, .int .i64 pa, .slice none 0 0, .int .i64 ((n : Nat) : Int), .int .i64 0, .int .i64 tl, .bool false] 85 (0, 0)))
    have HX7 := Shut.mk (block_range (MapKept.heap_alloc w5 (Obj.cells #[.int .i64 pi, .int .u32 pf, .int .i64 pt, .int .i64 pa, .slice none 0 0, .int .i64 ((n : Nat) : Int), .int .i64 0, .int .i64 tl, .bool false] 85 (0, 0))).1)
    generalize World.alloc w5 _ = wv1 at *
    obtain ⟨k7, hk7⟩ : ∃ s, s = w5.heap.size := ⟨_, rfl⟩
    rw [← hk7] at HX7 ⊢
    clear hk7
    have hHeld2 := hHeld.trans (HA7.out.mono hHeld.size)
    clear hHeld
    have hHeld := hHeld2
    clear hHeld2
    refine hK.out _ _ (fun _ => hHeld) (fun hC => ?_)
    clear hK K
    try simp only [Act.put, List.getElem_toArray, List.getElem_cons_zero, List.getElem_cons_succ, List.setIfInBounds_toArray, List.set_cons_zero, List.set_cons_succ]
    refine wpAnyD_one (i := 8) (by kernel_rfl) rfl hC (fun K hK => ?_)
    clear hC
    refine step_app_f rfl (.tmp 48) (.tmp 51) rfl B p.v s.l rfl (OwnS.below HROW5.out hHeld) (⟨⟨pi, pf, pt, pa, []⟩, n, 0, tl⟩, false) ⟨k7, 0, none⟩ 1 rfl (fun j q hq => by rw [Addr.add_mid]; exact HX7.out j q hq) HLL.out (Nat.le_trans HBL.out hHeld.size) ?_
    intro vq wv2 hP8 hO8 hN8
    obtain ⟨A8, c8, rfl, -⟩ := owns_form hP8.1
    obtain ⟨m8, hm8⟩ : ∃ m, m = (s.l ++ [((⟨⟨pi, pf, pt, pa, []⟩, n, 0, tl⟩, false) : Fm)]).length := ⟨_, rfl⟩
    rw [← hm8] at hP8 hN8 ⊢
    have HM8 := Shut.mk hm8
    have HP8 := Shut.mk hP8
    have HO8 := Shut.mk hO8
    have HN8 := Shut.mk hN8
    have HH7 := Shut.mk hHeld
    have HB8 := Shut.mk (show wv2.heap[p.g]? = some (.cells #[.int .i64 ((s.size : Nat) : Int), .int .i64 ((s.retry : Nat) : Int), .int .i64 s.life, .int .i64 ((s.state : Nat) : Int), .int .i64 s.token, .pointer (some ⟨p.gw, 0, none⟩), p.v, .bool s.ask, .int .i64 ((s.fr : Nat) : Int), .int .i64 ((s.vain : Nat) : Int)] 80 (0, 0)) from HO8.out.at_ ((hHeld.block _ (lt_blk HBK5.out)).trans HBK5.out) (fun e => (HSE.out.ng _ e).1 rfl))
    clear hm8 hP8 hO8 hN8
    refine hK.out _ _ (past (by kernel_rfl)) (fun hC => ?_)
    clear hK K
    try simp only [Act.put, List.getElem_toArray, List.getElem_cons_zero, List.getElem_cons_succ, List.setIfInBounds_toArray, List.set_cons_zero, List.set_cons_succ]
    refine wpAnyD_pure (i := 9) (v := ?_) rfl hC (by kernel_rfl) (by kernel_rfl) (by kernel_rfl) (by decide) (fun _ _ _ h => h) (Or.inl ⟨by rfl, ?_⟩) (past (by kernel_rfl)) ?_
    rotate_left
    · intro w hSw
      clear hSw
      go_simp
      try with_reducible rfl
    try simp only [Act.put, List.getElem_toArray, List.getElem_cons_zero, List.getElem_cons_succ, List.setIfInBounds_toArray, List.set_cons_zero, List.set_cons_succ]
    clear hC
    intro hC
    refine wpAnyD_pure (i := 10) (v := ?_) rfl hC (by kernel_rfl) (by kernel_rfl) (by kernel_rfl) (by decide) (fun _ _ _ h => h) (Or.inl ⟨by rfl, ?_⟩) (past (by kernel_rfl)) ?_
    rotate_left
    · intro w hSw
      clear hSw
      go_simp
      try with_reducible rfl
    try simp only [Act.put, List.getElem_toArray, List.getElem_cons_zero, List.getElem_cons_succ, List.setIfInBounds_toArray, List.set_cons_zero, List.set_cons_succ]
    clear hC
    intro hC
    refine wpAnyD_one (i := 11) (by kernel_rfl) rfl hC (fun K hK => ?_)
    clear hC
    have HBwv3 := Shut.mk (setRow_heap wv2 p.g _ #[.int .i64 ((s.size : Nat) : Int), .int .i64 ((s.retry : Nat) : Int), .int .i64 s.life, .int .i64 ((s.state : Nat) : Int), .int .i64 s.token, .pointer (some ⟨p.gw, 0, none⟩), .slice A8 m8 c8, .bool s.ask, .int .i64 ((s.fr : Nat) : Int), .int .i64 ((s.vain : Nat) : Int)] _ (0, 0) HB8.out)
    have HOwv3 := Shut.mk (only_setRow wv2 p.g #[.int .i64 ((s.size : Nat) : Int), .int .i64 ((s.retry : Nat) : Int), .int .i64 s.life, .int .i64 ((s.state : Nat) : Int), .int .i64 s.token, .pointer (some ⟨p.gw, 0, none⟩), .slice A8 m8 c8, .bool s.ask, .int .i64 ((s.fr : Nat) : Int), .int .i64 ((s.vain : Nat) : Int)])
    obtain ⟨wv3, hwv3⟩ : ∃ wv3, wv3 = wv2.setRow p.g #[.int .i64 ((s.size : Nat) : Int), .int .i64 ((s.retry : Nat) : Int), .int .i64 s.life, .int .i64 ((s.state : Nat) : Int), .int .i64 s.token, .pointer (some ⟨p.gw, 0, none⟩), .slice A8 m8 c8, .bool s.ask, .int .i64 ((s.fr : Nat) : Int), .int .i64 ((s.vain : Nat) : Int)] := ⟨_, rfl⟩
    rw [← hwv3] at HBwv3 HOwv3
    have HWwv3 := Shut.mk hwv3.symm
    clear hwv3
    refine step_store_into rfl 76 (.tmp 54) (.tmp 52) rfl p.g 6 (.slice A8 m8 c8) rfl rfl rfl 80 _ #[.int .i64 ((s.size : Nat) : Int), .int .i64 ((s.retry : Nat) : Int), .int .i64 s.life, .int .i64 ((s.state : Nat) : Int), .int .i64 s.token, .pointer (some ⟨p.gw, 0, none⟩), .slice A8 m8 c8, .bool s.ask, .int .i64 ((s.fr : Nat) : Int), .int .i64 ((s.vain : Nat) : Int)] HB8.out sizeFs (by show 6 < 10; omega) rfl ?_
    rw [HWwv3.out]
    refine hK.out _ _ (past (by kernel_rfl)) (fun hC => ?_)
    clear hK K
    try simp only [Act.put, List.getElem_toArray, List.getElem_cons_zero, List.getElem_cons_succ, List.setIfInBounds_toArray, List.set_cons_zero, List.set_cons_succ]
    refine wpAnyD_done (by kernel_rfl) ?_ _
    try simp only [Act.put, List.getElem_toArray, List.getElem_cons_zero, List.getElem_cons_succ, List.setIfInBounds_toArray, List.set_cons_zero, List.set_cons_succ]
    clear hHeld hC
    have HMX9 := Shut.mk (show wv3.heap[k10]? = some (.cells #[.int .i64 pi, .int .u32 pf, .int .i64 pt, .int .i64 pa, .slice none 0 0, .int .i64 ((n : Nat) : Int), .int .i64 0, .int .i64 tl] 40 (0, 0)) from HOwv3.out.at_ (HO8.out.at_ ((HH7.out.block _ (lt_blk HMB5.out)).trans HMB5.out) (fun e => by have := HOWN.out _ e; have := HK10.out; omega)) (fun e => by have := HPG.out; have := HK10.out; omega))
    have HRS9 := Shut.mk (show wv3.heap[s0 + 1]? = some (.cells #[.int .i64 0, .int .u32 0, .int .i64 0, .int .i64 0, .slice none 0 0, .int .i64 0, .int .i64 0, .int .i64 0] 40 (0, 0)) from HOwv3.out.at_ (HO8.out.at_ ((HH7.out.block _ (lt_blk HRS5.out)).trans HRS5.out) (fun e => by have := HOWN.out _ e; have := HS0.out; omega)) (fun e => by have := HPG.out; have := HS0.out; omega))
    go_wp2_with (refine wpList_load_row rfl 40 (.tmp 10) rfl k10 rfl 40 #[.int .i64 pi, .int .u32 pf, .int .i64 pt, .int .i64 pa, .slice none 0 0, .int .i64 ((n : Nat) : Int), .int .i64 0, .int .i64 tl] (0, 0) _ HMX9.out Tryd.underlying40 rfl sizeM ?_)
    refine (HCP.out wv3).mono ?_
    rintro e wy ⟨rfl, hb⟩
    have HBY := Shut.mk hb
    have HRSY := Shut.mk ((hb.block _ (lt_blk HRS9.out)).trans HRS9.out)
    clear hb
    have HZZ := Shut.mk (setRow_heap wy (s0 + 1) _ #[.int .i64 pi, .int .u32 pf, .int .i64 pt, .int .i64 pa, .slice none 0 0, .int .i64 ((n : Nat) : Int), .int .i64 0, .int .i64 tl] _ (0, 0) HRSY.out)
    have HOZ := Shut.mk (only_setRow wy (s0 + 1) #[.int .i64 pi, .int .u32 pf, .int .i64 pt, .int .i64 pa, .slice none 0 0, .int .i64 ((n : Nat) : Int), .int .i64 0, .int .i64 tl])
    go_wp2_with (first
      | (refine wpList_store_row rfl 40 (.tmp 6) (.tmp 56) rfl (s0 + 1) #[.int .i64 pi, .int .u32 pf, .int .i64 pt, .int .i64 pa, .slice none 0 0, .int .i64 ((n : Nat) : Int), .int .i64 0, .int .i64 tl] rfl rfl 40 _ HRSY.out sizeM rfl (by simp [Value.oneCell']) ?_))
    refine bodyPost_ret (v := .tuple #[.agg #[.int .i64 pi, .int .u32 pf, .int .i64 pt, .int .i64 pa, .slice none 0 0, .int .i64 ((n : Nat) : Int), .int .i64 0, .int .i64 tl], .nilIface]) (results_c1 (p := 6) (q := 7) Tryd.results15 _ _ (s0 + 1) _ _ _ _ _ rfl rfl HZZ.out Tryd.underlying40 rfl sizeM) rfl ?_
    have q1 : Only (FootS p) w w2 := (show Only (FootS p) w w1 from Only.of_quiet (by rw [HS0.out]; exact HB1.out)).trans HO2.out fun i _ e => .inr (.inl e)
    have q5 : Only (FootS p) w w5 := (q1.then_quiet HBX.out).then_quiet HD5.out
    have q7 := q5.then_quiet HH7.out
    have q8 : Only (FootS p) w wv2 := q7.trans HO8.out fun i _ e => .inr (.inr e)
    have q9 : Only (FootS p) w wv3 := q8.trans HOwv3.out fun i _ e => .inl e
    have qy := q9.then_quiet HBY.out
    have qz := qy.trans HOZ.out fun i hi e => by subst e; have := HS0.out; omega
    have hnum : n = nmW s.x s.x.gv := HNN.out
    refine ⟨rfl, .slice A8 m8 c8, ⟨?_, ?_, ?_, HSE.out.ne, ?_, HSE.out.lo⟩, qz, fun k hk => ?_⟩
    · have h9 := HBwv3.out
      exact HOZ.out.at_ ((HBY.out.block _ (lt_blk h9)).trans h9) (fun e => by have := HPG.out; have := HS0.out; have e2 : p.g = s0 + 1 := e; omega)
    · have hx2 := HX2.out
      have hx5 := (hx2.below HBX.out).below HD5.out
      have hx7 := hx5.below HH7.out
      have hx8 := hx7.only HO8.out (fun e => (HSE.out.ng _ e).2 rfl)
      have hx9 := hx8.only HOwv3.out (fun e => HSE.out.ne e.symm)
      have hxy := hx9.below HBY.out
      exact hxy.only HOZ.out (fun e => by have := HPW.out; have := HS0.out; have e2 : p.gw = s0 + 1 := e; omega)
    · have h8 := HP8.out
      have hap : ∀ j, (Value.slice A8 m8 c8).ownBlock = some j → p.v.ownBlock = some j ∨ w.heap.size ≤ j ∧ j ≠ s0 + 1 := fun j hj => by
        rcases HN8.out j hj with h1 | h1
        · exact .inl h1
        · have h2 := (HRS5.out) |> lt_blk
          have h3 := HH7.out.size
          have h4 := HS0.out
          exact .inr ⟨by omega, by omega⟩
      have h9 := own_only h8 HOwv3.out (fun j hj e => by
        rcases hap j hj with h1 | h1
        · exact (HSE.out.ng j h1).1 e
        · have := HPG.out; have := HS0.out; omega)
      have hy := OwnS.below h9 HBY.out
      have hz := own_only hy HOZ.out (fun j hj e => by
        rcases hap j hj with h1 | h1
        · have := HOWN.out j h1; have := HS0.out; omega
        · exact h1.2 e)
      show OwnS frC 9 _ B _ (.slice A8 m8 c8) (s.l ++ [((⟨⟨pi, pf, pt, pa, []⟩, n, 0, tl⟩, false) : Fm)]).length (s.l ++ [((⟨⟨pi, pf, pt, pa, []⟩, n, 0, tl⟩, false) : Fm)])
      rw [← HM8.out]
      exact hz
    · intro j hj
      rcases HN8.out j hj with h1 | h1
      · exact HSE.out.ng j h1
      · have h3 := HH7.out.size
        have h4 := HS0.out
        have h5 := lt_blk HRS5.out
        have h6 := HPG.out
        have h7 := HPW.out
        exact ⟨fun e => by have e2 : j = p.g := e; omega, fun e => by have e2 : j = p.gw := e; omega⟩
    · rcases HN8.out k hk with h1 | h1
      · exact .inl h1
      · have h3 := HH7.out.size
        have h4 := HS0.out
        have h5 := lt_blk HRS5.out
        exact .inr (by omega)
end
end Go.Proofs.YtlbfioknkagboaaDoor
