/-
  CONTRACTS of qos.Read where it answers an error.
-/
import Derived.Test.YtogcpommidfmnaaDoorQosR
import Derived.Test.YtogcpommidfmnaaDoorWhole
import Derived.Deep.RegionHeld3
namespace Go.Proofs.YtogcpommidfmnaaDoor
open Go.ChangeShapes Go.WideShapes Go.ChangeAt Go.RowKit
set_option linter.unusedVariables false
set_option linter.unusedSimpArgs false

set_option maxRecDepth 100000 in
set_option maxHeartbeats 8000000 in
theorem read_end (A : Option Addr) (n c : Nat) (xs : List Int) (E : Nat → Addr) (w : World) (h : n < 26) (he : w.cell? ⟨1, 0, none⟩ = some (errP (E 101))) :
    Calls Tryd.prog 12 #[.slice A n c] w fun e w' => e = .returned (.tuple #[q0.val, errP (E 101)]) ∧ Below w.heap.size w w' := by
  generalize E 101 = a at *
  have he' := cell?_alloc_old (.cells q0.cells 26) he
  have hg := heap_alloc_last w (.cells q0.cells 26)
  have HB := Lib.hid ((Below.refl w.heap.size w).alloc (Nat.le_refl _) (.cells q0.cells 26))
  have h1 : (n : Int) < 26 := by omega
  dsimp only [q0, Qf.cells] at he' hg HB
  go_enter Tryd.func12, Tryd.ntmps12
  go_wp2
  generalize World.alloc w _ = w1 at *
  have HG := Lib.hid hg
  clear hg
  refine wp_region_held_drew (S := fun w' => w' = w1.drew) (by kernel_rfl) rfl (fun hHeld => ?_)
  refine wpAnyH_take (i := 0) (v := .agg q0.cells) rfl (by kernel_rfl) (by kernel_rfl) (by kernel_rfl) (fun _ _ _ h => h) (Or.inl ⟨by rfl, ?_⟩) (by assumption) ?_
  · intro w hSw
    go_simp
  refine wpAnyH_take (i := 1) (v := errP a) rfl (by kernel_rfl) (by kernel_rfl) (by kernel_rfl) (fun _ _ _ h => h) (Or.inl ⟨by rfl, ?_⟩) (by assumption) ?_
  · rintro w rfl
    go_simp
  refine wpAnyH_ready (rs := [2]) (by kernel_rfl) (by simp) ?_
  refine AllReadyH.cons rfl (fun K hK => ?_) AllReadyH.nil
  rw [if_pos (by rfl)]
  refine wp_store_row _ _ _ rfl w.heap.size q0.cells rfl rfl _ q0.cells HG.out size26 rfl q0.oneCell ?_
  rw [setRow_same _ _ _ _ _ (show w1.drew.heap[w.heap.size]? = _ from HG.out)]
  refine hK.out _ _ rfl (fun hHeld => ?_)
  refine wpAnyH_take (i := 3) (v := errP a) rfl (by kernel_rfl) (by kernel_rfl) (by kernel_rfl) (fun _ _ _ h => h) (Or.inl ⟨by rfl, ?_⟩) (by assumption) ?_
  · rintro w rfl
    go_simp
  refine wpAnyH_done (by kernel_rfl) ?_ _
  simp only [Act.put, List.setIfInBounds_toArray, List.set_cons_zero, List.set_cons_succ]
  go_wp2
  refine bodyPost_ret (v := .tuple #[q0.val, errP a]) (results_cell_slot (p := 2) (q := 3) Tryd.results12 _ _ w.heap.size _ q0.cells _ _ rfl (show w1.drew.heap[w.heap.size]? = _ from HG.out) Tryd.underlying26 rfl size26) rfl ⟨rfl, HB.out.drew⟩

set_option maxRecDepth 100000 in
set_option maxHeartbeats 8000000 in
theorem read_kind (A : Option Addr) (n c : Nat) (xs : List Int) (E : Nat → Addr) (w : World) (h : RowB .u8 w A n xs) (hn : 26 ≤ n) (hk : xs.getD 0 0 ≠ 136) (he : w.cell? ⟨2, 0, none⟩ = some (errP (E 105))) :
    Calls Tryd.prog 12 #[.slice A n c] w fun e w' => e = .returned (.tuple #[q0.val, errP (E 105)]) ∧ Below w.heap.size w w' := by
  generalize E 105 = a at *
  have he' := cell?_alloc_old (.cells q0.cells 26) he
  have hg := heap_alloc_last w (.cells q0.cells 26)
  have HB := Lib.hid ((Below.refl w.heap.size w).alloc (Nat.le_refl _) (.cells q0.cells 26))
  have hle := h.le
  unfold maxLen at hle
  have HR := Lib.hid (h.below ((Below.refl w.heap.size w).alloc (Nat.le_refl _) (.cells q0.cells 26)))
  obtain ⟨b, off, rfl, hc⟩ := HR.out.el 0 (by omega)
  rw [Nat.add_zero] at hc
  have hn' : (26 : Int) ≤ (n : Int) := by omega
  clear h
  have hk' : (xs.getD 0 0 != 136) = true := by simpa using hk
  generalize xs.getD 0 0 = v0 at *
  clear hk HR
  dsimp only [q0, Qf.cells] at hc
  dsimp only [q0, Qf.cells] at he' hg HB
  go_enter Tryd.func12, Tryd.ntmps12
  go_wp2
  generalize World.alloc w _ = w1 at *
  have HG := Lib.hid hg
  clear hg
  refine wp_region_held_drew (S := fun w' => w' = w1.drew) (by kernel_rfl) rfl (fun hHeld => ?_)
  refine wpAnyH_take (i := 0) (v := .agg q0.cells) rfl (by kernel_rfl) (by kernel_rfl) (by kernel_rfl) (fun _ _ _ h => h) (Or.inl ⟨by rfl, ?_⟩) (by assumption) ?_
  · intro w hSw
    go_simp
  refine wpAnyH_take (i := 1) (v := errP a) rfl (by kernel_rfl) (by kernel_rfl) (by kernel_rfl) (fun _ _ _ h => h) (Or.inl ⟨by rfl, ?_⟩) (by assumption) ?_
  · rintro w rfl
    go_simp
  refine wpAnyH_ready (rs := [2]) (by kernel_rfl) (by simp) ?_
  refine AllReadyH.cons rfl (fun K hK => ?_) AllReadyH.nil
  rw [if_pos (by rfl)]
  refine wp_store_row _ _ _ rfl w.heap.size q0.cells rfl rfl _ q0.cells HG.out size26 rfl q0.oneCell ?_
  rw [setRow_same _ _ _ _ _ (show w1.drew.heap[w.heap.size]? = _ from HG.out)]
  refine hK.out _ _ rfl (fun hHeld => ?_)
  refine wpAnyH_take (i := 3) (v := errP a) rfl (by kernel_rfl) (by kernel_rfl) (by kernel_rfl) (fun _ _ _ h => h) (Or.inl ⟨by rfl, ?_⟩) (by assumption) ?_
  · rintro w rfl
    go_simp
  refine wpAnyH_done (by kernel_rfl) ?_ _
  simp only [Act.put, List.setIfInBounds_toArray, List.set_cons_zero, List.set_cons_succ]
  go_wp2
  refine bodyPost_ret (v := .tuple #[q0.val, errP a]) (results_cell_slot (p := 2) (q := 3) Tryd.results12 _ _ w.heap.size _ q0.cells _ _ rfl (show w1.drew.heap[w.heap.size]? = _ from HG.out) Tryd.underlying26 rfl size26) rfl ⟨rfl, HB.out.drew⟩

set_option maxRecDepth 100000 in
set_option maxHeartbeats 8000000 in
theorem read_shape (A : Option Addr) (n c : Nat) (xs : List Int) (E : Nat → Addr) (w : World) (h : RowB .u8 w A n xs) (hn : 26 ≤ n) (hk : xs.getD 0 0 = 136) (hs : hfB xs = false) (he : w.cell? ⟨3, 0, none⟩ = some (errP (E 102))) :
    Calls Tryd.prog 12 #[.slice A n c] w fun e w' => e = .returned (.tuple #[q0.val, errP (E 102)]) ∧ Below w.heap.size w w' := by
  generalize E 102 = a at *
  have he' := cell?_alloc_old (.cells q0.cells 26) he
  have hg := heap_alloc_last w (.cells q0.cells 26)
  have HB := Lib.hid ((Below.refl w.heap.size w).alloc (Nat.le_refl _) (.cells q0.cells 26))
  have hle := h.le
  unfold maxLen at hle
  have HR := Lib.hid (h.below ((Below.refl w.heap.size w).alloc (Nat.le_refl _) (.cells q0.cells 26)))
  obtain ⟨b, off, rfl, hc⟩ := HR.out.el 0 (by omega)
  rw [Nat.add_zero] at hc
  have hn' : (26 : Int) ≤ (n : Int) := by omega
  clear h
  have hk' : (xs.getD 0 0 != 136) = false := by simpa using hk
  have HH := Lib.hid (headFits_any (some ⟨b, off, none⟩) n c xs _ HR.out hn)
  rw [hs] at HH
  generalize xs.getD 0 0 = v0 at *
  clear hk HR hs
  dsimp only [q0, Qf.cells] at hc HH
  dsimp only [q0, Qf.cells] at he' hg HB
  go_enter Tryd.func12, Tryd.ntmps12
  go_wp2_with (first | (go_at_call 22; refine HH.out.mono ?_; rintro e w' ⟨rfl, rfl⟩) | (go_at_call 18; refine (len_any 1500 _ (by omega) (by omega)).mono ?_; rintro e w' ⟨rfl, rfl⟩))
  generalize World.alloc w _ = w1 at *
  have HG := Lib.hid hg
  clear hg
  refine wp_region_held_drew (S := fun w' => w' = w1.drew) (by kernel_rfl) rfl (fun hHeld => ?_)
  refine wpAnyH_take (i := 0) (v := .agg q0.cells) rfl (by kernel_rfl) (by kernel_rfl) (by kernel_rfl) (fun _ _ _ h => h) (Or.inl ⟨by rfl, ?_⟩) (by assumption) ?_
  · intro w hSw
    go_simp
  refine wpAnyH_take (i := 1) (v := errP a) rfl (by kernel_rfl) (by kernel_rfl) (by kernel_rfl) (fun _ _ _ h => h) (Or.inl ⟨by rfl, ?_⟩) (by assumption) ?_
  · rintro w rfl
    go_simp
  refine wpAnyH_ready (rs := [2]) (by kernel_rfl) (by simp) ?_
  refine AllReadyH.cons rfl (fun K hK => ?_) AllReadyH.nil
  rw [if_pos (by rfl)]
  refine wp_store_row _ _ _ rfl w.heap.size q0.cells rfl rfl _ q0.cells HG.out size26 rfl q0.oneCell ?_
  rw [setRow_same _ _ _ _ _ (show w1.drew.heap[w.heap.size]? = _ from HG.out)]
  refine hK.out _ _ rfl (fun hHeld => ?_)
  refine wpAnyH_take (i := 3) (v := errP a) rfl (by kernel_rfl) (by kernel_rfl) (by kernel_rfl) (fun _ _ _ h => h) (Or.inl ⟨by rfl, ?_⟩) (by assumption) ?_
  · rintro w rfl
    go_simp
  refine wpAnyH_done (by kernel_rfl) ?_ _
  simp only [Act.put, List.setIfInBounds_toArray, List.set_cons_zero, List.set_cons_succ]
  go_wp2
  refine bodyPost_ret (v := .tuple #[q0.val, errP a]) (results_cell_slot (p := 2) (q := 3) Tryd.results12 _ _ w.heap.size _ q0.cells _ _ rfl (show w1.drew.heap[w.heap.size]? = _ from HG.out) Tryd.underlying26 rfl size26) rfl ⟨rfl, HB.out.drew⟩

set_option maxRecDepth 100000 in
set_option maxHeartbeats 8000000 in
theorem read_range (A : Option Addr) (n c : Nat) (xs : List Int) (E : Nat → Addr) (w : World) (h : RowB .u8 w A n xs) (hn : 1526 < n) (hk : xs.getD 0 0 = 136) (hs : hfB xs = true) (he : w.cell? ⟨0, 0, none⟩ = some (errP (E 103))) :
    Calls Tryd.prog 12 #[.slice A n c] w fun e w' => e = .returned (.tuple #[q0.val, errP (E 103)]) ∧ Below w.heap.size w w' := by
  generalize E 103 = a at *
  have he' := cell?_alloc_old (.cells q0.cells 26) he
  have hg := heap_alloc_last w (.cells q0.cells 26)
  have HB := Lib.hid ((Below.refl w.heap.size w).alloc (Nat.le_refl _) (.cells q0.cells 26))
  have hle := h.le
  unfold maxLen at hle
  have HR := Lib.hid (h.below ((Below.refl w.heap.size w).alloc (Nat.le_refl _) (.cells q0.cells 26)))
  obtain ⟨b, off, rfl, hc⟩ := HR.out.el 0 (by omega)
  rw [Nat.add_zero] at hc
  have hn' : (26 : Int) ≤ (n : Int) := by omega
  clear h
  have hn2 : (1526 : Int) < (n : Int) := by omega
  have hk' : (xs.getD 0 0 != 136) = false := by simpa using hk
  have HH := Lib.hid (headFits_any (some ⟨b, off, none⟩) n c xs _ HR.out (by omega))
  rw [hs] at HH
  generalize xs.getD 0 0 = v0 at *
  clear hk HR hs
  dsimp only [q0, Qf.cells] at hc HH
  dsimp only [q0, Qf.cells] at he' hg HB
  go_enter Tryd.func12, Tryd.ntmps12
  go_wp2_with (first | (go_at_call 22; refine HH.out.mono ?_; rintro e w' ⟨rfl, rfl⟩) | (go_at_call 18; refine (len_any 1500 _ (by omega) (by omega)).mono ?_; rintro e w' ⟨rfl, rfl⟩))
  generalize World.alloc w _ = w1 at *
  have HG := Lib.hid hg
  clear hg
  refine wp_region_held_drew (S := fun w' => w' = w1.drew) (by kernel_rfl) rfl (fun hHeld => ?_)
  refine wpAnyH_take (i := 0) (v := .agg q0.cells) rfl (by kernel_rfl) (by kernel_rfl) (by kernel_rfl) (fun _ _ _ h => h) (Or.inl ⟨by rfl, ?_⟩) (by assumption) ?_
  · intro w hSw
    go_simp
  refine wpAnyH_take (i := 1) (v := errP a) rfl (by kernel_rfl) (by kernel_rfl) (by kernel_rfl) (fun _ _ _ h => h) (Or.inl ⟨by rfl, ?_⟩) (by assumption) ?_
  · rintro w rfl
    go_simp
  refine wpAnyH_ready (rs := [2]) (by kernel_rfl) (by simp) ?_
  refine AllReadyH.cons rfl (fun K hK => ?_) AllReadyH.nil
  rw [if_pos (by rfl)]
  refine wp_store_row _ _ _ rfl w.heap.size q0.cells rfl rfl _ q0.cells HG.out size26 rfl q0.oneCell ?_
  rw [setRow_same _ _ _ _ _ (show w1.drew.heap[w.heap.size]? = _ from HG.out)]
  refine hK.out _ _ rfl (fun hHeld => ?_)
  refine wpAnyH_take (i := 3) (v := errP a) rfl (by kernel_rfl) (by kernel_rfl) (by kernel_rfl) (fun _ _ _ h => h) (Or.inl ⟨by rfl, ?_⟩) (by assumption) ?_
  · rintro w rfl
    go_simp
  refine wpAnyH_done (by kernel_rfl) ?_ _
  simp only [Act.put, List.setIfInBounds_toArray, List.set_cons_zero, List.set_cons_succ]
  go_wp2
  refine bodyPost_ret (v := .tuple #[q0.val, errP a]) (results_cell_slot (p := 2) (q := 3) Tryd.results12 _ _ w.heap.size _ q0.cells _ _ rfl (show w1.drew.heap[w.heap.size]? = _ from HG.out) Tryd.underlying26 rfl size26) rfl ⟨rfl, HB.out.drew⟩
end Go.Proofs.YtogcpommidfmnaaDoor
