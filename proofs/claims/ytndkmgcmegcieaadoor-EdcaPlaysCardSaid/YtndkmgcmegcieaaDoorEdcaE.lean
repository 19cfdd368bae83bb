/-
  THE REFERENCE's edca: wait, least, greatest, Window, wider.
-/
import Derived.Test.YtndkmgcmegcieaaDoorEdcaD
import Derived.Deep.RegionHeld
namespace Go.Proofs.YtndkmgcmegcieaaDoor
open Go.ChangeShapes Go.WideShapes Go.ChangeAt Go.RowKit Go.Deep
set_option linter.unusedVariables false
set_option linter.unusedSimpArgs false


set_option maxRecDepth 100000 in
set_option maxHeartbeats 8000000 in
theorem wait_any (a : Nat) (ha : a < 4) (w : World) : Calls Tryd.prog 23 #[.int .i64 (a : Nat)] w fun r w' => r = .returned (.int .i64 ((waitE a : Nat) : Int)) ∧ Below w.heap.size w w' := by
  have HB := Shut.mk ((Below.refl w.heap.size w).alloc (Nat.le_refl _) (Obj.cells #[.int .i64 ((waitE 0 : Nat) : Int), .int .i64 ((waitE 1 : Nat) : Int), .int .i64 ((waitE 2 : Nat) : Int), .int .i64 ((waitE 3 : Nat) : Int)] 3 (0, 0)))
  match a, ha with
  | 0, _ | 1, _ | 2, _ | 3, _ =>
    go_enter Tryd.func23, Tryd.ntmps23
    go_wp2
    go_ret
    exact ⟨rfl, HB.out⟩

set_option maxRecDepth 100000 in
set_option maxHeartbeats 8000000 in
theorem least_any (a : Nat) (ha : a < 4) (w : World) : Calls Tryd.prog 27 #[.int .i64 (a : Nat)] w fun r w' => r = .returned (.int .i64 ((leastE a : Nat) : Int)) ∧ Below w.heap.size w w' := by
  have HB := Shut.mk ((Below.refl w.heap.size w).alloc (Nat.le_refl _) (Obj.cells #[.int .i64 ((leastE 0 : Nat) : Int), .int .i64 ((leastE 1 : Nat) : Int), .int .i64 ((leastE 2 : Nat) : Int), .int .i64 ((leastE 3 : Nat) : Int)] 3 (0, 0)))
  match a, ha with
  | 0, _ | 1, _ | 2, _ | 3, _ =>
    go_enter Tryd.func27, Tryd.ntmps27
    go_wp2
    go_ret
    exact ⟨rfl, HB.out⟩

set_option maxRecDepth 100000 in
set_option maxHeartbeats 8000000 in
theorem greatest_any (a : Nat) (ha : a < 4) (w : World) : Calls Tryd.prog 28 #[.int .i64 (a : Nat)] w fun r w' => r = .returned (.int .i64 ((mostE a : Nat) : Int)) ∧ Below w.heap.size w w' := by
  have HB := Shut.mk ((Below.refl w.heap.size w).alloc (Nat.le_refl _) (Obj.cells #[.int .i64 ((mostE 0 : Nat) : Int), .int .i64 ((mostE 1 : Nat) : Int), .int .i64 ((mostE 2 : Nat) : Int), .int .i64 ((mostE 3 : Nat) : Int)] 3 (0, 0)))
  match a, ha with
  | 0, _ | 1, _ | 2, _ | 3, _ =>
    go_enter Tryd.func28, Tryd.ntmps28
    go_wp2
    go_ret
    exact ⟨rfl, HB.out⟩

set_option maxRecDepth 100000 in
set_option maxHeartbeats 8000000 in
theorem refwindow_in (g : Nat) (e : Ec) (a : Nat) (w : World) (hg : IsRe w g e) (ha : a < 4) :
    Calls Tryd.prog 16 #[.pointer (some ⟨g, 0, none⟩), .int .i64 (a : Nat)] w fun r w' => r = .returned (.int .i64 ((winE e a : Nat) : Int)) ∧ Below w.heap.size w w' := by
  obtain ⟨x, hx⟩ : ∃ x, x = e.wd a := ⟨_, rfl⟩
  obtain ⟨y, hy⟩ : ∃ y, y = leastE a := ⟨_, rfl⟩
  have H0 := Shut.mk (show w.cell? ⟨g, a, none⟩ = some (.int .i64 ((x : Nat) : Int)) by rw [hx]; exact At8.b hg ha)
  have HP := Shut.mk hy
  have HA := Shut.mk ha
  have hai : (a : Int) < 4 := by omega
  have HV := Shut.mk (show ((winE e a : Nat) : Int) = max (x : Int) (y : Int) by unfold winE; omega)
  rw [HV.out]
  clear hx hy hg ha
  go_enter Tryd.func16, Tryd.ntmps16
  go_wp2_with (fail)
  refine wp_region_held_drew (S := fun w' => Below w.heap.size w w') (by kernel_rfl) (Below.refl _ _).drew (fun hHeld => ?_)
  generalize World.drew w = w5 at *
  have HB5 := Lib.hid hHeld
  refine wpAnyH_take (i := 0) (v := ?_) rfl (by kernel_rfl) (by kernel_rfl) (by kernel_rfl) (fun _ _ _ h => h) (Or.inl ⟨by rfl, ?_⟩) (by assumption) ?_
  rotate_left
  · intro w hSw
    clear hSw
    go_simp
    try with_reducible rfl
  try simp only [Act.put, List.getElem_toArray, List.getElem_cons_zero, List.getElem_cons_succ, List.setIfInBounds_toArray, List.set_cons_zero, List.set_cons_succ]
  refine wpAnyH_take (i := 1) (v := ?_) rfl (by kernel_rfl) (by kernel_rfl) (by kernel_rfl) (fun _ _ _ h => h) (Or.inl ⟨by rfl, ?_⟩) (by assumption) ?_
  rotate_left
  · intro w hSw
    clear hSw
    go_simp
    try with_reducible rfl
  try simp only [Act.put, List.getElem_toArray, List.getElem_cons_zero, List.getElem_cons_succ, List.setIfInBounds_toArray, List.set_cons_zero, List.set_cons_succ]
  refine wpAnyH_take (i := 2) (v := ?_) rfl (by kernel_rfl) (by kernel_rfl) (by kernel_rfl) (fun _ _ _ h => h) (Or.inl ⟨by rfl, ?_⟩) (by assumption) ?_
  rotate_left
  · intro w hSw
    clear hSw
    go_simp
    try with_reducible rfl
  try simp only [Act.put, List.getElem_toArray, List.getElem_cons_zero, List.getElem_cons_succ, List.setIfInBounds_toArray, List.set_cons_zero, List.set_cons_succ]
  refine wpAnyH_take (i := 3) (v := ?_) rfl (by kernel_rfl) (by kernel_rfl) (by kernel_rfl) (fun _ _ _ h => h) (Or.inl ⟨by rfl, ?_⟩) (by assumption) ?_
  rotate_left
  · intro w hSw
    clear hSw
    go_simp
    try with_reducible rfl
  try simp only [Act.put, List.getElem_toArray, List.getElem_cons_zero, List.getElem_cons_succ, List.setIfInBounds_toArray, List.set_cons_zero, List.set_cons_succ]
  refine wpAnyH_take (i := 4) (v := ?_) rfl (by kernel_rfl) (by kernel_rfl) (by kernel_rfl) (fun _ _ _ h => h) (Or.inl ⟨by rfl, ?_⟩) (by assumption) ?_
  rotate_left
  · intro w hSw
    clear hSw
    go_simp
    try with_reducible rfl
  try simp only [Act.put, List.getElem_toArray, List.getElem_cons_zero, List.getElem_cons_succ, List.setIfInBounds_toArray, List.set_cons_zero, List.set_cons_succ]
  refine wpAnyH_take (i := 5) (v := ?_) rfl (by kernel_rfl) (by kernel_rfl) (by kernel_rfl) (fun _ _ _ h => h) (Or.inl ⟨by rfl, ?_⟩) (by assumption) ?_
  rotate_left
  · intro w hSw
    have hz := below_at hSw H0.out
    clear hSw
    go_simp
    try with_reducible rfl
  try simp only [Act.put, List.getElem_toArray, List.getElem_cons_zero, List.getElem_cons_succ, List.setIfInBounds_toArray, List.set_cons_zero, List.set_cons_succ]
  refine wpAnyH_take (i := 6) (v := ?_) rfl (by kernel_rfl) (by kernel_rfl) (by kernel_rfl) (fun _ _ _ h => h) (Or.inl ⟨by rfl, ?_⟩) (by assumption) ?_
  rotate_left
  · intro w hSw
    clear hSw
    go_simp
    try with_reducible rfl
  try simp only [Act.put, List.getElem_toArray, List.getElem_cons_zero, List.getElem_cons_succ, List.setIfInBounds_toArray, List.set_cons_zero, List.set_cons_succ]
  refine wpAnyH_ready (rs := [7]) (by kernel_rfl) (by simp) ?_
  refine AllReadyH.cons rfl (fun K hK => ?_) AllReadyH.nil
  go_simp
  refine (least_any a HA.out w5).mono ?_
  rintro e' w6 ⟨rfl, hb⟩
  rw [← HP.out]
  have HB6 := Lib.hid (HB5.out.trans (hb.mono HB5.out.size))
  clear hb hHeld HB5
  refine hK.out _ _ HB6.out (fun hHeld => ?_)
  clear hK K
  try simp only [Act.put, List.getElem_toArray, List.getElem_cons_zero, List.getElem_cons_succ, List.setIfInBounds_toArray, List.set_cons_zero, List.set_cons_succ]
  refine wpAnyH_take (i := 8) (v := ?_) rfl (by kernel_rfl) (by kernel_rfl) (by kernel_rfl) (fun _ _ _ h => h) (Or.inl ⟨by rfl, ?_⟩) (by assumption) ?_
  rotate_left
  · intro w hSw
    clear hSw
    go_simp
    try with_reducible rfl
  try simp only [Act.put, List.getElem_toArray, List.getElem_cons_zero, List.getElem_cons_succ, List.setIfInBounds_toArray, List.set_cons_zero, List.set_cons_succ]
  refine wpAnyH_take (i := 9) (v := ?_) rfl (by kernel_rfl) (by kernel_rfl) (by kernel_rfl) (fun _ _ _ h => h) (Or.inl ⟨by rfl, ?_⟩) (by assumption) ?_
  rotate_left
  · intro w hSw
    clear hSw
    go_simp
    try with_reducible rfl
  try simp only [Act.put, List.getElem_toArray, List.getElem_cons_zero, List.getElem_cons_succ, List.setIfInBounds_toArray, List.set_cons_zero, List.set_cons_succ]
  refine wpAnyH_done (by kernel_rfl) ?_ _
  try simp only [Act.put, List.getElem_toArray, List.getElem_cons_zero, List.getElem_cons_succ, List.setIfInBounds_toArray, List.set_cons_zero, List.set_cons_succ]
  go_wp2_with (fail)
  go_ret
  exact ⟨rfl, HB6.out⟩
set_option maxRecDepth 100000 in
set_option maxHeartbeats 8000000 in
theorem refwindow_out (g : Nat) (n : Int) (w : World) (hn : ¬ (0 ≤ n ∧ n < 4)) :
    Calls Tryd.prog 16 #[.pointer (some ⟨g, 0, none⟩), .int .i64 n] w fun r w' => r = .returned (.int .i64 0) ∧ w = w' := by
  by_cases h : n < 0
  · clear hn
    go_enter Tryd.func16, Tryd.ntmps16
    go_wp2_with (fail)
    go_ret
    exact ⟨rfl, rfl⟩
  · have h4 : 4 ≤ n := by omega
    clear hn
    go_enter Tryd.func16, Tryd.ntmps16
    go_wp2_with (fail)
    go_ret
    exact ⟨rfl, rfl⟩

set_option maxRecDepth 100000 in
set_option maxHeartbeats 8000000 in
theorem refwider_any (g : Nat) (e : Ec) (a : Nat) (w : World) (hg : IsRe w g e) (ha : a < 4) (hi : InvE e) :
    Calls Tryd.prog 24 #[.pointer (some ⟨g, 0, none⟩), .int .i64 (a : Nat)] w fun r w' => r = .returned (.tuple #[]) ∧ IsRe w' g (widE e a) ∧ Only (· = g) w w' := by
  have HG := Shut.mk hg
  have HA := Shut.mk ha
  obtain ⟨v, hv⟩ : ∃ v, v = winE e a := ⟨_, rfl⟩
  obtain ⟨q, hq⟩ : ∃ q, q = mostE a := ⟨_, rfl⟩
  obtain ⟨nw, hn⟩ : ∃ nw, nw = widerE e a := ⟨_, rfl⟩
  have HQQ := Shut.mk hq
  have hw := hi.win a
  have hm := most_le a
  have hws : widerE e a = min (2 * winE e a + 1) (mostE a) := rfl
  have y1 : IntKind.i64.wrap (2 * (v : Int)) = 2 * (v : Int) := IntWalk.i64_in _ ⟨by omega, by omega⟩
  have y2 : IntKind.i64.wrap (2 * (v : Int) + 1) = 2 * (v : Int) + 1 := IntWalk.i64_in _ ⟨by omega, by omega⟩
  have y3 : min (2 * (v : Int) + 1) (q : Int) = ((nw : Nat) : Int) := by omega
  have hai : (a : Int) < 4 := by omega
  have HNW := Shut.mk hn
  have HVV := Shut.mk hv
  clear hg ha hi hv hq hn hw hm hws
  go_enter Tryd.func24, Tryd.ntmps24
  go_wp2_with (fail)
  refine wp_region_D (fun w' => Below w.heap.size w w') 13 (by kernel_rfl) (show Below w.heap.size w (World.drew w) from (Below.refl _ _).drew) (fun hHeld hC => ?_)
  obtain ⟨w5, hw5⟩ : ∃ w5, w5 = World.drew w := ⟨_, rfl⟩
  rw [← hw5] at hHeld ⊢
  clear hw5
  refine wpAnyD_pure (i := 0) (v := ?_) rfl hC (by kernel_rfl) (by kernel_rfl) (by kernel_rfl) (by decide) (fun _ _ _ h => h) (Or.inl ⟨by rfl, ?_⟩) (fun _ => hHeld) ?_
  rotate_left
  · intro w hSw
    clear hSw
    go_simp
    try with_reducible rfl
  try simp only [Act.put, List.getElem_toArray, List.getElem_cons_zero, List.getElem_cons_succ, List.setIfInBounds_toArray, List.set_cons_zero, List.set_cons_succ]
  clear hC
  intro hC
  refine wpAnyD_pure (i := 1) (v := ?_) rfl hC (by kernel_rfl) (by kernel_rfl) (by kernel_rfl) (by decide) (fun _ _ _ h => h) (Or.inl ⟨by rfl, ?_⟩) (fun _ => hHeld) ?_
  rotate_left
  · intro w hSw
    clear hSw
    go_simp
    try with_reducible rfl
  try simp only [Act.put, List.getElem_toArray, List.getElem_cons_zero, List.getElem_cons_succ, List.setIfInBounds_toArray, List.set_cons_zero, List.set_cons_succ]
  clear hC
  intro hC
  refine wpAnyD_pure (i := 2) (v := ?_) rfl hC (by kernel_rfl) (by kernel_rfl) (by kernel_rfl) (by decide) (fun _ _ _ h => h) (Or.inl ⟨by rfl, ?_⟩) (fun _ => hHeld) ?_
  rotate_left
  · intro w hSw
    clear hSw
    go_simp
    try with_reducible rfl
  try simp only [Act.put, List.getElem_toArray, List.getElem_cons_zero, List.getElem_cons_succ, List.setIfInBounds_toArray, List.set_cons_zero, List.set_cons_succ]
  clear hC
  intro hC
  refine wpAnyD_pure (i := 3) (v := ?_) rfl hC (by kernel_rfl) (by kernel_rfl) (by kernel_rfl) (by decide) (fun _ _ _ h => h) (Or.inl ⟨by rfl, ?_⟩) (fun _ => hHeld) ?_
  rotate_left
  · intro w hSw
    clear hSw
    go_simp
    try with_reducible rfl
  try simp only [Act.put, List.getElem_toArray, List.getElem_cons_zero, List.getElem_cons_succ, List.setIfInBounds_toArray, List.set_cons_zero, List.set_cons_succ]
  clear hC
  intro hC
  refine wpAnyD_pure (i := 7) (v := ?_) rfl hC (by kernel_rfl) (by kernel_rfl) (by kernel_rfl) (by decide) (fun _ _ _ h => h) (Or.inl ⟨by rfl, ?_⟩) (fun _ => hHeld) ?_
  rotate_left
  · intro w hSw
    clear hSw
    go_simp
    try with_reducible rfl
  try simp only [Act.put, List.getElem_toArray, List.getElem_cons_zero, List.getElem_cons_succ, List.setIfInBounds_toArray, List.set_cons_zero, List.set_cons_succ]
  clear hC
  intro hC
  refine wpAnyD_pure (i := 10) (v := ?_) rfl hC (by kernel_rfl) (by kernel_rfl) (by kernel_rfl) (by decide) (fun _ _ _ h => h) (Or.inl ⟨by rfl, ?_⟩) (fun _ => hHeld) ?_
  rotate_left
  · intro w hSw
    clear hSw
    go_simp
    try with_reducible rfl
  try simp only [Act.put, List.getElem_toArray, List.getElem_cons_zero, List.getElem_cons_succ, List.setIfInBounds_toArray, List.set_cons_zero, List.set_cons_succ]
  clear hC
  intro hC
  refine wpAnyD_pure (i := 11) (v := ?_) rfl hC (by kernel_rfl) (by kernel_rfl) (by kernel_rfl) (by decide) (fun _ _ _ h => h) (Or.inl ⟨by rfl, ?_⟩) (fun _ => hHeld) ?_
  rotate_left
  · intro w hSw
    clear hSw
    go_simp
    try with_reducible rfl
  try simp only [Act.put, List.getElem_toArray, List.getElem_cons_zero, List.getElem_cons_succ, List.setIfInBounds_toArray, List.set_cons_zero, List.set_cons_succ]
  clear hC
  intro hC
  refine wpAnyD_one (i := 4) (by kernel_rfl) rfl hC (fun K hK => ?_)
  clear hC
  go_simp
  refine (refwindow_in g e a _ (HG.out.below hHeld) HA.out).mono ?_
  rintro e' w1 ⟨rfl, hB⟩
  rw [← HVV.out]
  have hHeld2 := hHeld.trans (hB.mono hHeld.size)
  clear hB
  clear hHeld
  have hHeld := hHeld2
  clear hHeld2
  refine hK.out _ _ (fun _ => hHeld) (fun hC => ?_)
  clear hK K
  try simp only [Act.put, List.getElem_toArray, List.getElem_cons_zero, List.getElem_cons_succ, List.setIfInBounds_toArray, List.set_cons_zero, List.set_cons_succ]
  refine wpAnyD_pure (i := 5) (v := ?_) rfl hC (by kernel_rfl) (by kernel_rfl) (by kernel_rfl) (by decide) (fun _ _ _ h => h) (Or.inl ⟨by rfl, ?_⟩) (fun _ => hHeld) ?_
  rotate_left
  · intro w hSw
    clear hSw
    go_simp
    try with_reducible rfl
  try simp only [Act.put, List.getElem_toArray, List.getElem_cons_zero, List.getElem_cons_succ, List.setIfInBounds_toArray, List.set_cons_zero, List.set_cons_succ]
  clear hC
  intro hC
  refine wpAnyD_pure (i := 6) (v := ?_) rfl hC (by kernel_rfl) (by kernel_rfl) (by kernel_rfl) (by decide) (fun _ _ _ h => h) (Or.inl ⟨by rfl, ?_⟩) (fun _ => hHeld) ?_
  rotate_left
  · intro w hSw
    clear hSw
    go_simp
    try with_reducible rfl
  try simp only [Act.put, List.getElem_toArray, List.getElem_cons_zero, List.getElem_cons_succ, List.setIfInBounds_toArray, List.set_cons_zero, List.set_cons_succ]
  clear hC
  intro hC
  refine wpAnyD_one (i := 8) (by kernel_rfl) rfl hC (fun K hK => ?_)
  clear hC
  go_simp
  refine (greatest_any a HA.out _).mono ?_
  rintro e' w2 ⟨rfl, hB⟩
  rw [← HQQ.out]
  have hHeld2 := hHeld.trans (hB.mono hHeld.size)
  clear hB
  clear hHeld
  have hHeld := hHeld2
  clear hHeld2
  refine hK.out _ _ (fun _ => hHeld) (fun hC => ?_)
  clear hK K
  try simp only [Act.put, List.getElem_toArray, List.getElem_cons_zero, List.getElem_cons_succ, List.setIfInBounds_toArray, List.set_cons_zero, List.set_cons_succ]
  refine wpAnyD_pure (i := 9) (v := ?_) rfl hC (by kernel_rfl) (by kernel_rfl) (by kernel_rfl) (by decide) (fun _ _ _ h => h) (Or.inl ⟨by rfl, ?_⟩) (fun _ => hHeld) ?_
  rotate_left
  · intro w hSw
    clear hSw
    go_simp
    try with_reducible rfl
  try simp only [Act.put, List.getElem_toArray, List.getElem_cons_zero, List.getElem_cons_succ, List.setIfInBounds_toArray, List.set_cons_zero, List.set_cons_succ]
  clear hC
  intro hC
  refine wpAnyD_pure (i := 12) (v := ?_) rfl hC (by kernel_rfl) (by kernel_rfl) (by kernel_rfl) (by decide) (fun _ _ _ h => h) (Or.inl ⟨by rfl, ?_⟩) (fun _ => hHeld) ?_
  rotate_left
  · intro w hSw
    clear hSw
    go_simp
    try with_reducible rfl
  try simp only [Act.put, List.getElem_toArray, List.getElem_cons_zero, List.getElem_cons_succ, List.setIfInBounds_toArray, List.set_cons_zero, List.set_cons_succ]
  clear hC
  intro hC
  refine wpAnyD_one (i := 13) (by kernel_rfl) rfl hC (fun K hK => ?_)
  clear hC
  refine step_store_into rfl 3 (.tmp 16) (.tmp 13) rfl g a (.int .i64 ((nw : Nat) : Int)) rfl rfl rfl 31 _ _ (HG.out.below hHeld) size1i (by show a < 8; have := HA.out; omega) (set8_b _ _ HA.out _) ?_
  have HX2 := Shut.mk (At8.set (b' := fun j => if j = a then ((nw : Nat) : Int) else ((e.wd j : Nat) : Int)) (k' := fun j => ((e.ct j : Nat) : Int)) (HG.out.below hHeld))
  have HO2 := Shut.mk (only_below (g := g) hHeld (c8 (fun j => if j = a then ((nw : Nat) : Int) else ((e.wd j : Nat) : Int)) (fun j => ((e.ct j : Nat) : Int))))
  generalize hq : World.setRow w2 g _ = w3 at *
  clear hq
  refine hK.out _ _ (past (by kernel_rfl)) (fun hC => ?_)
  clear hK K
  try simp only [Act.put, List.getElem_toArray, List.getElem_cons_zero, List.getElem_cons_succ, List.setIfInBounds_toArray, List.set_cons_zero, List.set_cons_succ]
  refine wpAnyD_done (by kernel_rfl) ?_ _
  try simp only [Act.put, List.getElem_toArray, List.getElem_cons_zero, List.getElem_cons_succ, List.setIfInBounds_toArray, List.set_cons_zero, List.set_cons_succ]
  clear hC hHeld y1 y2 y3
  go_wp2_with (fail)
  refine bodyPost_end (results_none (fn := Tryd.f24) rfl _ _ _) rfl ?_
  refine ⟨rfl, HX2.out.to fun b hb => ⟨?_, rfl⟩, HO2.out⟩
  show _ = (((if b = a then widerE e a else e.wd b) : Nat) : Int)
  by_cases hba : b = a
  · rw [if_pos hba, if_pos hba, HNW.out]
  · rw [if_neg hba, if_neg hba]
end Go.Proofs.YtndkmgcmegcieaaDoor
