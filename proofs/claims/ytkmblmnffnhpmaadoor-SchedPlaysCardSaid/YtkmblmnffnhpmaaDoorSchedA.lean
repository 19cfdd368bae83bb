/-
  THE REFERENCE'S turns: Active; each call of whatever station in one.
-/
import Derived.Test.YtkmblmnffnhpmaaDoorSchedO
import Derived.StillTailTactics
import Derived.LoopTactic
namespace Go.Proofs.YtkmblmnffnhpmaaDoor
open Go.ChangeShapes Go.WideShapes Go.ChangeAt Go.RowKit Go.Deep
set_option linter.unusedVariables false
set_option linter.unusedSimpArgs false

/-! ### Active -/
def onT (t : Tu) (on : Bool) : Tu := { t with on := on }
set_option maxRecDepth 100000 in
set_option maxHeartbeats 8000000 in
theorem refactive_plain (B gr : Nat) (v : Value) (l : List Tu) (a : Int) (on : Bool) (w : World) (x : IsRs B w gr v l) (hl : l.length ≤ 1000) (hh : hasT l a = true) (hon : on = false ∨ (l.getD (fiT l a) tu0).on = true) :
    Calls Tryd.prog 20 #[.pointer (some ⟨gr, 0, none⟩), .int .i64 a, .bool on] w fun r w' => r = .returned (.int .i64 0) ∧ RsE B gr v (l.set (fiT l a) { l.getD (fiT l a) tu0 with on := on }) w w' := by
  obtain ⟨A, c, rfl, hr, hc⟩ := x.row (by omega)
  have HF := Shut.mk (find_any gr A c l a w x.slot hr)
  rw [ansF_yes hh] at HF
  have hk := has_lt hh
  obtain ⟨k, hkk⟩ : ∃ k, k = fiT l a := ⟨_, rfl⟩
  rw [← hkk] at HF hk ⊢
  obtain ⟨g, cap, hg, hbg, hgl⟩ := World.ownsRow.form x.own.1 (by omega)
  cases hg
  obtain ⟨b', off', hA', hrg⟩ := hr.el k hk
  cases hA'
  rw [Nat.zero_add] at hrg
  have h3 := range_cell hrg 3 _ rfl
  have h2 := range_cell hrg 2 _ rfl
  have hc1 := cell1 x.slot
  rw [← hkk] at hon
  obtain ⟨m, hm⟩ : ∃ m, m = l.length := ⟨_, rfl⟩
  have HX := Shut.mk (show IsRs B w gr (.slice (some ⟨g, 0, none⟩) m c) l by rw [hm]; exact x)
  have HO := Shut.mk (show OwnS trC 4 w B 49 (.slice (some ⟨g, 0, none⟩) m c) m l by rw [hm]; exact x.own)
  rw [← hm] at hc1 hk ⊢
  have HK := Shut.mk hk
  have hk0 : (0 : Int) ≤ (k : Int) := by omega
  have hk1 : (k : Int) < (m : Int) := by omega
  have hp : ¬ (k : Int) < 0 := by omega
  cases on with
  | false =>
    clear x hr hc hl hh hkk hbg hgl hm hk hrg h2 h3 hon
    go_enter Tryd.func20, Tryd.ntmps20
    go_wp2_with (fail)
    refine HF.out.mono ?_
    rintro r w' ⟨rfl, rfl⟩
    go_wp2_with (refine wpList_store_cell (d := tu0) trC_len rfl 4 (.tmp 66) (.tmp 64) rfl B 49 g k 3 m c _ l { l.getD k tu0 with on := false } (.bool false) rfl rfl rfl rfl HO.out HK.out (by decide) size1z rfl ?_; intro wz hv2 ho2)
    have HFIN := Shut.mk (RsE.cell HX.out hv2.out ho2.out)
    clear hv2 ho2
    go_wp2_with (fail)
    go_ret
    exact ⟨rfl, HFIN.out⟩
  | true =>
    have hto : (l.getD k tu0).on = true := hon.resolve_left (by simp)
    rw [hto] at h3
    clear x hr hc hl hh hkk hbg hgl hm hk hrg h2 hon hto
    go_enter Tryd.func20, Tryd.ntmps20
    go_wp2_with (fail)
    refine HF.out.mono ?_
    rintro r w' ⟨rfl, rfl⟩
    go_wp2_with (refine wpList_store_cell (d := tu0) trC_len rfl 4 (.tmp 66) (.tmp 64) rfl B 49 g k 3 m c _ l { l.getD k tu0 with on := true } (.bool true) rfl rfl rfl rfl HO.out HK.out (by decide) size1z rfl ?_; intro wz hv2 ho2)
    have HFIN := Shut.mk (RsE.cell HX.out hv2.out ho2.out)
    clear hv2 ho2
    go_wp2_with (fail)
    go_ret
    exact ⟨rfl, HFIN.out⟩
set_option maxRecDepth 100000 in
set_option maxHeartbeats 8000000 in
theorem refactive_first (B gr : Nat) (v : Value) (l : List Tu) (a : Int) (w : World) (x : IsRs B w gr v l) (hl : l.length ≤ 1000) (hB : B ≤ w.heap.size) (hh : hasT l a = true) (hoff : (l.getD (fiT l a) tu0).on = false) (he : orderT [] l = []) :
    Calls Tryd.prog 20 #[.pointer (some ⟨gr, 0, none⟩), .int .i64 a, .bool true] w fun r w' => r = .returned (.int .i64 0) ∧ RsE B gr v (l.set (fiT l a) { l.getD (fiT l a) tu0 with on := true }) w w' := by
  obtain ⟨A, c, rfl, hr, hc⟩ := x.row (by omega)
  have HF := Shut.mk (find_any gr A c l a w x.slot hr)
  rw [ansF_yes hh] at HF
  have hk := has_lt hh
  obtain ⟨k, hkk⟩ : ∃ k, k = fiT l a := ⟨_, rfl⟩
  rw [← hkk] at HF hk ⊢
  obtain ⟨g, cap, hg, hbg, hgl⟩ := World.ownsRow.form x.own.1 (by omega)
  cases hg
  obtain ⟨b', off', hA', hrg⟩ := hr.el k hk
  cases hA'
  rw [Nat.zero_add] at hrg
  have h3 := range_cell hrg 3 _ rfl
  have h2 := range_cell hrg 2 _ rfl
  have hc1 := cell1 x.slot
  rw [← hkk] at hoff
  rw [hoff] at h3
  have HORD := Shut.mk (reforder_any gr (some ⟨g, 0, none⟩) c l w x.slot hr hl)
  rw [he] at HORD
  obtain ⟨m, hm⟩ : ∃ m, m = l.length := ⟨_, rfl⟩
  have HX := Shut.mk (show IsRs B w gr (.slice (some ⟨g, 0, none⟩) m c) l by rw [hm]; exact x)
  have HO := Shut.mk (show OwnS trC 4 w B 49 (.slice (some ⟨g, 0, none⟩) m c) m l by rw [hm]; exact x.own)
  rw [← hm] at hc1 hk ⊢
  have HK := Shut.mk hk
  have hk0 : (0 : Int) ≤ (k : Int) := by omega
  have hk1 : (k : Int) < (m : Int) := by omega
  have hp : ¬ (k : Int) < 0 := by omega
  clear x hr hc hl hB hh hkk hbg hgl hm hk hrg h2 hoff he
  go_enter Tryd.func20, Tryd.ntmps20
  go_wp2_with (fail)
  refine HF.out.mono ?_
  rintro r w' ⟨rfl, rfl⟩
  go_wp2_with (fail)
  refine HORD.out.mono ?_
  rintro r w2 ⟨vo, rfl, hro, hfo, hbo⟩
  obtain ⟨Ao, co, rfl, -, -⟩ := RowN.form hro
  have HBO := Shut.mk hbo
  have hc2 := below_at hbo hc1
  have HO2 := Shut.mk (HO.out.below hbo)
  have HX2 := Shut.mk (HX.out.below hbo)
  clear hro hfo hbo HORD
  go_wp2_with (refine wpList_store_cell (d := tu0) trC_len rfl 4 (.tmp 66) (.tmp 64) rfl B 49 g k 3 m c _ l { l.getD k tu0 with on := true } (.bool true) rfl rfl rfl rfl HO2.out HK.out (by decide) size1z rfl ?_; intro wz hv2 ho2)
  have HFIN := Shut.mk (RsE.below HX.out HBO.out hv2.out ho2.out)
  clear hv2 ho2
  go_wp2_with (fail)
  go_ret
  exact ⟨rfl, HFIN.out⟩
theorem order_mem {l : List Tu} {y : Tu} {r : List Tu} (h : orderT [] l = y :: r) : y ∈ l := by
  have h1 := (orderT_perm l []).mem_iff.1 (show y ∈ orderT [] l by rw [h]; exact List.mem_cons_self)
  rw [List.nil_append] at h1
  exact (List.mem_filter.1 h1).1
set_option maxRecDepth 100000 in
set_option maxHeartbeats 8000000 in
theorem refactive_next (B gr : Nat) (v : Value) (l : List Tu) (a : Int) (y : Tu) (rest : List Tu) (w : World) (x : IsRs B w gr v l) (hi : InvT l) (hl : l.length ≤ 1000) (hB : B ≤ w.heap.size) (hh : hasT l a = true) (hoff : (l.getD (fiT l a) tu0).on = false) (he : orderT [] l = y :: rest) :
    Calls Tryd.prog 20 #[.pointer (some ⟨gr, 0, none⟩), .int .i64 a, .bool true] w fun r w' => r = .returned (.int .i64 0) ∧ RsE B gr v (l.set (fiT l a) { l.getD (fiT l a) tu0 with tm := max (l.getD (fiT l a) tu0).tm y.tm, on := true }) w w' := by
  obtain ⟨A, c, rfl, hr, hc⟩ := x.row (by omega)
  have HF := Shut.mk (find_any gr A c l a w x.slot hr)
  rw [ansF_yes hh] at HF
  have hk := has_lt hh
  obtain ⟨k, hkk⟩ : ∃ k, k = fiT l a := ⟨_, rfl⟩
  rw [← hkk] at HF hk ⊢
  obtain ⟨g, cap, hg, hbg, hgl⟩ := World.ownsRow.form x.own.1 (by omega)
  cases hg
  obtain ⟨b', off', hA', hrg⟩ := hr.el k hk
  cases hA'
  rw [Nat.zero_add] at hrg
  have h3 := range_cell hrg 3 _ rfl
  have h2 := range_cell hrg 2 _ rfl
  have hc1 := cell1 x.slot
  rw [← hkk] at hoff
  rw [hoff] at h3
  have HORD := Shut.mk (reforder_any gr (some ⟨g, 0, none⟩) c l w x.slot hr hl)
  rw [he] at HORD
  -- whose turn it is stands in the list
  obtain ⟨q, hq, hyq⟩ := List.getElem_of_mem (order_mem he)
  have hyd : l.getD q tu0 = y := by rw [← hyq]; simp [List.getD, hq]
  have hfq : fiT l ((y.aid : Nat) : Int) = q := by rw [← hyd]; exact fiT_mem hi hq
  have hhq : hasT l ((y.aid : Nat) : Int) = true := by unfold hasT; rw [hfq]; simpa using hq
  obtain ⟨b2, off2, hA2, hrq⟩ := hr.el q hq
  cases hA2
  rw [Nat.zero_add, hyd] at hrq
  have hy2 := range_cell hrq 2 _ rfl
  have hokk := (okT_at hi hk).tm
  have hoky := (okT_at hi hq).tm
  rw [hyd] at hoky
  have HFY := Shut.mk fun (w' : World) (hb : Below w.heap.size w w') => find_any gr (some ⟨g, 0, none⟩) c l ((y.aid : Nat) : Int) w' (x.below hb).slot (hr.below hb)
  rw [ansF_yes hhq, hfq] at HFY
  obtain ⟨m, hm⟩ : ∃ m, m = l.length := ⟨_, rfl⟩
  have HX := Shut.mk (show IsRs B w gr (.slice (some ⟨g, 0, none⟩) m c) l by rw [hm]; exact x)
  have HO := Shut.mk (show OwnS trC 4 w B 49 (.slice (some ⟨g, 0, none⟩) m c) m l by rw [hm]; exact x.own)
  rw [← hm] at hc1 hk ⊢
  have HK := Shut.mk hk
  have hk0 : (0 : Int) ≤ (k : Int) := by omega
  have hk1 : (k : Int) < (m : Int) := by omega
  have hp : ¬ (k : Int) < 0 := by omega
  have hql : (q : Int) < (m : Int) := by omega
  have hq0 : (0 : Int) ≤ (q : Int) := by omega
  obtain ⟨z, hz⟩ : ∃ z, z = max (l.getD k tu0).tm y.tm := ⟨_, rfl⟩
  rw [← hz]
  obtain ⟨tk, htk⟩ : ∃ tk, tk = (l.getD k tu0).tm := ⟨_, rfl⟩
  obtain ⟨ty, hty⟩ : ∃ ty, ty = y.tm := ⟨_, rfl⟩
  obtain ⟨ya, hya⟩ : ∃ ya, ya = y.aid := ⟨_, rfl⟩
  rw [← htk] at h2 hz
  rw [← hty] at hy2 hz
  rw [← hya] at HFY
  have y6 : max (tk : Int) (ty : Int) = (z : Int) := by rw [hz]; omega
  have HSL := Shut.mk fun (w' : World) (hb : Below w.heap.size w w') => show w'.cell? ⟨gr, 0, none⟩ = some (.slice (some ⟨g, 0, none⟩) m c) from below_at hb hc1
  have HTK := Shut.mk fun (w' : World) (hb : Below w.heap.size w w') => show w'.cell? ⟨g, k * 4 + 2, none⟩ = some (.int .i64 (tk : Nat)) from below_at hb h2
  have HTX := Shut.mk fun (w' : World) (hb : Below w.heap.size w w') => show w'.cell? ⟨g, q * 4 + 2, none⟩ = some (.int .i64 (ty : Nat)) from below_at hb hy2
  have HYA := Shut.mk hya
  clear x hi hr hc hl hB hh hkk hbg hgl hm hk hrg h2 hoff he hq hyq hyd hfq hhq hrq hy2 hokk hoky hz htk hty hya
  go_enter Tryd.func20, Tryd.ntmps20
  go_wp2_with (fail)
  refine HF.out.mono ?_
  rintro r w' ⟨rfl, rfl⟩
  go_wp2_with (fail)
  refine HORD.out.mono ?_
  rintro r w2 ⟨vo, rfl, hro, hfo, hbo⟩
  have hlr : ((y :: rest).map fun t => ((t.aid : Nat) : Int)).length = rest.length + 1 := by simp
  obtain ⟨go, oo, co, rfl, hrgo, hco, -⟩ := RowAt.cells hro (by rw [hlr]; omega)
  rw [hlr]
  have ho0 := hrgo 0 (.int .i64 (ya : Nat)) (by rw [HYA.out]; rfl)
  have HBO := Shut.mk hbo
  have hc2 := below_at hbo hc1
  have HO0 := Shut.mk fun (w' : World) (hb : Below w.heap.size w w' ∧ w'.cell? ⟨go, oo, none⟩ = some (.int .i64 (ya : Nat))) => hb.2
  have ho1 : w2.cell? ⟨go, oo, none⟩ = some (.int .i64 (ya : Nat)) := by rw [Nat.add_zero] at ho0; exact ho0
  have HO1 := Shut.mk ho1
  obtain ⟨nr, hnr⟩ : ∃ nr, nr = rest.length + 1 := ⟨_, rfl⟩
  have hnp : (0 : Int) < (nr : Int) := by omega
  rw [← hnr]
  clear hro hfo hbo hrgo ho0 ho1 hlr hco HORD hnr
  go_wp2_with (fail)
  refine wp_region_D (fun w' => Below w.heap.size w w' ∧ w'.cell? ⟨go, oo, none⟩ = some (.int .i64 (ya : Nat))) 28 (by kernel_rfl) ⟨HBO.out.drew, HO1.out⟩ (fun hHeld hC => ?_)
  refine dP 0 hC hHeld ?_; clear hC; intro hC
  refine dP 1 hC hHeld ?_; clear hC; intro hC
  refine dP 2 hC hHeld ?_; clear hC; intro hC
  refine dT 3 hC hHeld (fun w hSw => (HSL.out _ hSw.1)) ?_; clear hC; intro hC
  refine dP 4 hC hHeld ?_; clear hC; intro hC
  refine dP 5 hC hHeld ?_; clear hC; intro hC
  refine dP 6 hC hHeld ?_; clear hC; intro hC
  refine dP 7 hC hHeld ?_; clear hC; intro hC
  refine dT 8 hC hHeld (fun w hSw => (HSL.out _ hSw.1)) ?_; clear hC; intro hC
  refine dP 9 hC hHeld ?_; clear hC; intro hC
  refine dP 10 hC hHeld ?_; clear hC; intro hC
  refine dP 11 hC hHeld ?_; clear hC; intro hC
  refine dT 12 hC hHeld (fun w hSw => (HTK.out _ hSw.1)) ?_; clear hC; intro hC
  refine dP 13 hC hHeld ?_; clear hC; intro hC
  refine dP 14 hC hHeld ?_; clear hC; intro hC
  refine dP 15 hC hHeld ?_; clear hC; intro hC
  refine dT 16 hC hHeld (fun w hSw => (HSL.out _ hSw.1)) ?_; clear hC; intro hC
  refine dP 17 hC hHeld ?_; clear hC; intro hC
  refine dP 18 hC hHeld ?_; clear hC; intro hC
  refine dP 19 hC hHeld ?_; clear hC; intro hC
  refine dT 20 hC hHeld (fun w hSw => hSw.2) ?_; clear hC; intro hC
  refine wpAnyD_one (i := 21) (by kernel_rfl) rfl hC (fun K hK => ?_)
  clear hC
  go_simp
  refine (HFY.out _ hHeld.1).mono ?_
  rintro e' wq ⟨rfl, rfl⟩
  have hHeld2 := hHeld
  clear hHeld
  have hHeld := hHeld2
  clear hHeld2
  refine hK.out _ _ (fun _ => hHeld) (fun hC => ?_)
  clear hK K
  try simp only [Act.put, List.getElem_toArray, List.getElem_cons_zero, List.getElem_cons_succ, List.setIfInBounds_toArray, List.set_cons_zero, List.set_cons_succ]
  refine dP 22 hC hHeld ?_; clear hC; intro hC
  refine dP 23 hC hHeld ?_; clear hC; intro hC
  refine dT 24 hC hHeld (fun w hSw => (HTX.out _ hSw.1)) ?_; clear hC; intro hC
  refine dP 25 hC hHeld ?_; clear hC; intro hC
  refine dP 26 hC hHeld ?_; clear hC; intro hC
  refine dP 27 hC hHeld ?_; clear hC; intro hC
  refine wpAnyD_one (i := 28) (by kernel_rfl) rfl hC (fun K hK => ?_)
  clear hC
  refine step_store_cell (d := tu0) trC_len rfl 2 (.tmp 58) (.tmp 56) rfl B 49 g k 2 m c _ l { l.getD k tu0 with tm := z } (.int .i64 (z : Nat)) rfl rfl rfl rfl (HO.out.below hHeld.1) HK.out (by decide) size1y rfl ?_
  intro wy hv2 ho2
  have HXY := Shut.mk (IsRs.cell (HX.out.below hHeld.1) hv2.out ho2.out)
  have HOY := Shut.mk hv2.out
  have HBH := Shut.mk hHeld.1
  clear hv2 ho2
  refine hK.out _ _ (past (by kernel_rfl)) (fun hC => ?_)
  clear hK K
  try simp only [Act.put, List.getElem_toArray, List.getElem_cons_zero, List.getElem_cons_succ, List.setIfInBounds_toArray, List.set_cons_zero, List.set_cons_succ]
  refine wpAnyD_done (by kernel_rfl) ?_ _
  try simp only [Act.put, List.getElem_toArray, List.getElem_cons_zero, List.getElem_cons_succ, List.setIfInBounds_toArray, List.set_cons_zero, List.set_cons_succ]
  clear hC hHeld
  obtain ⟨l1, hl1⟩ : ∃ l1, l1 = l.set k { l.getD k tu0 with tm := z } := ⟨_, rfl⟩
  have HSET := Shut.mk (show l1.set k { l1.getD k tu0 with on := true } = l.set k { l.getD k tu0 with tm := z, on := true } by
    have e : l1.getD k tu0 = { l.getD k tu0 with tm := z } := by rw [hl1, List.getD, List.getElem?_set]; simp [show k < l.length by have h := HO.out.2; have := HK.out; omega]
    rw [e, hl1, List.set_set])
  rw [← hl1] at HXY HOY
  clear hl1
  have hcy := cell1 HXY.out.1.slot
  go_wp2_with (refine wpList_store_cell (d := tu0) trC_len rfl 4 (.tmp 66) (.tmp 64) rfl B 49 g k 3 m c _ l1 { l1.getD k tu0 with on := true } (.bool true) rfl rfl rfl rfl HOY.out HK.out (by decide) size1z rfl ?_; intro wz hv2 ho2)
  have HFIN := Shut.mk (show RsE B gr (.slice (some ⟨g, 0, none⟩) m c) (l.set k { l.getD k tu0 with tm := z, on := true }) w wz from by
    obtain ⟨h1, h2⟩ := HXY.out.1.cell hv2.out ho2.out
    rw [HSET.out] at h1
    exact ⟨_, h1, ((Only.of_quiet HBH.out).trans HXY.out.2 fun i _ hi => hi).trans h2 fun i _ hi => hi, Fresh.refl _ _⟩)
  clear hv2 ho2
  go_wp2_with (fail)
  go_ret
  exact ⟨rfl, HFIN.out⟩
end Go.Proofs.YtkmblmnffnhpmaaDoor
