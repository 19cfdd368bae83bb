/-
  CONTRACT of qos.Read where it answers a frame.
-/
import Derived.Test.YtogcpommidfmnaaDoorQosR
import Derived.Test.YtogcpommidfmnaaDoorWhole
import Derived.Deep.RegionHeld3
import Derived.Laws.CopyOwn
import Derived.Deep.RegionLaw
import Derived.IntWalk
namespace Go.Proofs.YtogcpommidfmnaaDoor
open Go.ChangeShapes Go.WideShapes Go.ChangeAt Go.RowKit
set_option linter.unusedVariables false
set_option linter.unusedSimpArgs false

/-- six bytes of a list, from o on. -/
def six (xs : List Int) (o : Nat) : A6 := ⟨xs.getD o 0, xs.getD (o + 1) 0, xs.getD (o + 2) 0, xs.getD (o + 3) 0, xs.getD (o + 4) 0, xs.getD (o + 5) 0⟩
/-- the frame that bytes say; its body lies at A. -/
def decQ (xs : List Int) (A : Option Addr) (n c : Nat) : Qf :=
  ⟨six xs 4, six xs 10, six xs 16, bits .andNot .u8 (xs.getD 24 0) 16, xs.getD 22 0 / 16 + xs.getD 23 0 * 16, bits .and .u8 (xs.getD 1 0) 8 != 0, bits .and .u8 (xs.getD 1 0) 32 != 0, bits .and .u8 (xs.getD 24 0) 16 != 0, A, n, c⟩

theorem tid_nat : ∀ n : Nat, n < 256 → 0 ≤ bits .andNot .u8 (n : Int) 16 ∧ bits .andNot .u8 (n : Int) 16 ≤ 255 := by decide +kernel
/-- a row without its first k. -/
theorem drop_row {k : IntKind} {w : World} {b off n : Nat} {xs : List Int} (h : RowB k w (some ⟨b, off, none⟩) n xs) (m : Nat) (hm : m ≤ n) : RowB k w (some ⟨b, off + m, none⟩) (n - m) (xs.drop m) := by
  have hl := h.len
  have e : ∀ i, (xs.drop m).getD i 0 = xs.getD (m + i) 0 := fun i => by simp [List.getD]
  refine ⟨by simp; omega, Nat.le_trans (Nat.sub_le _ _) h.le, fun i hi => ?_, fun hp => ⟨b, off + m, rfl, fun i hi => ?_⟩⟩
  · rw [e i]; exact h.wf _ (by omega)
  · obtain ⟨b', off', e', hc⟩ := h.el (m + i) (by omega)
    cases e'
    rw [e i, Nat.add_assoc]; exact hc

theorem OwnB.of_block {w w' : World} {base : Nat} {T : TypeId} {k : IntKind} {g n cap : Nat} {xs : List Int} (h : OwnB w base T k g n cap xs) (hg : w'.heap[g]? = w.heap[g]?) : OwnB w' base T k g n cap xs := by
  refine ⟨h.1, ?_⟩
  rcases h.2 with hn | ⟨g', cap', cur, e, hb', hg', rest⟩
  · exact .inl hn
  · refine .inr ⟨g', cap', cur, e, hb', ?_, rest⟩
    injection e with e
    injection e with e
    injection e with e
    subst e
    rw [hg]; exact hg'
theorem OwnB.base {w : World} {base base' : Nat} {T : TypeId} {k : IntKind} {g n cap : Nat} {xs : List Int} (h : OwnB w base T k g n cap xs) (hb : base' ≤ base) : OwnB w base' T k g n cap xs := by
  refine ⟨h.1, ?_⟩
  rcases h.2 with hn | ⟨g', cap', cur, e, hb', rest⟩
  · exact .inl hn
  · exact .inr ⟨g', cap', cur, e, Nat.le_trans hb hb', rest⟩
theorem six_cells {w : World} {b off n : Nat} {xs : List Int} (h : RowB .u8 w (some ⟨b, off, none⟩) n xs) (o : Nat) (ho : o + 6 ≤ n) :
    ∀ j v, (six xs o).cells.toList[j]? = some v → w.cell? ((⟨b, off + o, none⟩ : Addr).add j) = some v := by
  intro j v hv
  have hj : j < 6 := by have := (List.getElem?_eq_some_iff.1 hv).1; simpa using this
  have hv' : v = .int .u8 (xs.getD (o + j) 0) := by
    match j, hj with
    | 0, _ | 1, _ | 2, _ | 3, _ | 4, _ | 5, _ => simpa [six] using hv.symm
  subst hv'
  rw [Addr.add_mid, Nat.add_assoc]
  obtain ⟨b', off', e', hc⟩ := h.el (o + j) (by omega)
  cases e'
  exact hc
theorem A6.one (a : A6) : ∀ v ∈ a.cells.toList, v.oneCell' = true := by intro v hv; simp at hv; rcases hv with rfl | rfl | rfl | rfl | rfl | rfl <;> rfl
theorem sizeU8 : (Tryd.prog.info? 5).map (·.size) = some 1 := by kernel_rfl

set_option maxRecDepth 100000 in
set_option maxHeartbeats 8000000 in
theorem read_ok (A : Option Addr) (n c : Nat) (xs : List Int) (w : World) (h : RowB .u8 w A n xs) (hn : 26 ≤ n) (hn2 : n ≤ 1526) (hnc : n ≤ c) (hk : xs.getD 0 0 = 136) (hs : hfB xs = true) :
    Calls Tryd.prog 12 #[.slice A n c] w fun e w' => ∃ g cap, e = .returned (.tuple #[(decQ xs (some ⟨g, 0, none⟩) (n - 26) cap).val, .nilIface]) ∧ OwnB w' w.heap.size 5 .u8 g (n - 26) cap (xs.drop 26) ∧ Below w.heap.size w w' := by
  have hle := h.le
  unfold maxLen at hle
  have hg := heap_alloc_last w (.cells q0.cells 26)
  have HB := Lib.hid ((Below.refl w.heap.size w).alloc (Nat.le_refl _) (.cells q0.cells 26))
  have HR := Lib.hid (h.below ((Below.refl w.heap.size w).alloc (Nat.le_refl _) (.cells q0.cells 26)))
  obtain ⟨b, off, rfl, hc⟩ := HR.out.cells (by omega)
  have c0 := hc 0 (by omega)
  rw [Nat.add_zero] at c0
  have c1 := hc 1 (by omega)
  have c22 := hc 22 (by omega)
  have c23 := hc 23 (by omega)
  have c24 := hc 24 (by omega)
  obtain ⟨l22, u22⟩ := HR.out.wf8 22 (by omega)
  obtain ⟨l24, u24⟩ := HR.out.wf8 24 (by omega)
  have HTID := Lib.hid (u8all (p := fun v => 0 ≤ bits .andNot .u8 v 16 ∧ bits .andNot .u8 v 16 ≤ 255) tid_nat (xs.getD 24 0) l24 u24)
  clear l24 u24
  obtain ⟨l23, u23⟩ := HR.out.wf8 23 (by omega)
  have hn' : (26 : Int) ≤ (n : Int) := by omega
  have hn'' : (n : Int) ≤ 1526 := by omega
  have b1 : (1 : Int) < (n : Int) := by omega
  have b22 : (22 : Int) < (n : Int) := by omega
  have b23 : (23 : Int) < (n : Int) := by omega
  have b24 : (24 : Int) < (n : Int) := by omega
  have hnc' : (n : Int) ≤ (c : Int) := by omega
  have hk' : (xs.getD 0 0 != 136) = false := by simpa using hk
  have HH := Lib.hid (headFits_any (some ⟨b, off, none⟩) n c xs _ HR.out hn)
  rw [hs] at HH
  have HD := Lib.hid (show ∀ A n c, (decQ xs A n c).cells = #[_, _, _, _, _, _, _, _, _, _, _, _, _, _, _, _, _, _, _, _, _, _, _, _] from fun _ _ _ => rfl)
  clear hs h hk hc
  dsimp only [q0, Qf.cells] at c0 c1 c22 c23 c24 HH hg HB HR
  generalize xs.getD 0 0 = v0 at *
  generalize hv1 : xs.getD 1 0 = v1 at *
  generalize hv22 : xs.getD 22 0 = v22 at *
  generalize hv23 : xs.getD 23 0 = v23 at *
  generalize hv24 : xs.getD 24 0 = v24 at *
  have H1 := Lib.hid hv1
  have H22 := Lib.hid hv22
  have H23 := Lib.hid hv23
  have H24 := Lib.hid hv24
  clear hv1 hv22 hv23 hv24
  go_enter Tryd.func12, Tryd.ntmps12
  go_wp2_with (first | (go_at_call 22; refine HH.out.mono ?_; rintro e w' ⟨rfl, rfl⟩) | (go_at_call 18; refine (len_any 1500 _ (by omega) (by omega)).mono ?_; rintro e w' ⟨rfl, rfl⟩))
  generalize World.alloc w _ = w1 at *
  have HG := Lib.hid hg
  have HLT := Lib.hid (show w.heap.size < w1.heap.size from by
    by_cases hp : w.heap.size < w1.heap.size
    · exact hp
    · rw [Array.getElem?_eq_none (Nat.le_of_not_lt hp)] at hg; cases hg)
  have HL := Lib.hid (show ∀ w' : World, Below w1.heap.size w1 w' → w'.cell? ⟨b, off + 1, none⟩ = some (.int .u8 v1) ∧ w'.cell? ⟨b, off + 22, none⟩ = some (.int .u8 v22) ∧ w'.cell? ⟨b, off + 23, none⟩ = some (.int .u8 v23) ∧ w'.cell? ⟨b, off + 24, none⟩ = some (.int .u8 v24) from
    fun w' hb => ⟨(hb.cell (cell_lt' c1)).trans c1, (hb.cell (cell_lt' c22)).trans c22, (hb.cell (cell_lt' c23)).trans c23, (hb.cell (cell_lt' c24)).trans c24⟩)
  clear hg c0 c1 c22 c23 c24 HH
  obtain ⟨off', hoff, hrow⟩ : ∃ off' : Nat, (if c = 26 then some (⟨b, off, none⟩ : Addr) else some ⟨b, off + 26, none⟩) = some ⟨b, off', none⟩ ∧ RowB .u8 w1 (some ⟨b, off', none⟩) (n - 26) (xs.drop 26) := by
    by_cases h26 : c = 26
    · refine ⟨off, by rw [if_pos h26], ?_⟩
      have hx : xs.drop 26 = [] := List.drop_of_length_le (by have := HR.out.len; omega)
      rw [hx, show n - 26 = 0 by omega]
      exact RowB.nil
    · refine ⟨off + 26, by rw [if_neg h26], ?_⟩
      exact drop_row HR.out 26 (by omega)
  have HOF := Lib.hid hoff
  have HRD := Lib.hid hrow
  clear hoff hrow
  obtain ⟨lt, ut⟩ := HTID.out
  have x1 := IntWalk.i64_in (bits .andNot .u8 v24 16) ⟨by omega, by omega⟩
  have x2 := IntWalk.i64_in v22 ⟨by omega, by omega⟩
  have x3 : IntKind.i64.wrap (v22.tdiv 16) = v22 / 16 := by rw [Int.tdiv_eq_ediv_of_nonneg l22]; exact IntWalk.i64_in _ ⟨by omega, by omega⟩
  have x4 := IntWalk.i64_in v23 ⟨by omega, by omega⟩
  have x5 := IntWalk.i64_in (v23 * 16) ⟨by omega, by omega⟩
  have x6 := IntWalk.i64_in (v22 / 16 + v23 * 16) ⟨by omega, by omega⟩
  refine wp_region_held_drew (S := fun w' => Below w1.heap.size w1 w') (by kernel_rfl) (Below.refl _ _).drew (fun hHeld => ?_)
  refine wpAnyH_take (i := 0) (v := ?_) rfl (by kernel_rfl) (by kernel_rfl) (by kernel_rfl) (fun _ _ _ h => h) (Or.inl ⟨by rfl, ?_⟩) (by assumption) ?_
  rotate_left
  · intro w hSw
    obtain ⟨e1, e22, e23, e24⟩ := HL.out w hSw
    clear hSw
    go_simp
    try with_reducible rfl
  try simp only [Act.put, List.getElem_toArray, List.getElem_cons_zero, List.getElem_cons_succ, List.setIfInBounds_toArray, List.set_cons_zero, List.set_cons_succ]
  refine wpAnyH_take (i := 1) (v := ?_) rfl (by kernel_rfl) (by kernel_rfl) (by kernel_rfl) (fun _ _ _ h => h) (Or.inl ⟨by rfl, ?_⟩) (by assumption) ?_
  rotate_left
  · intro w hSw
    obtain ⟨e1, e22, e23, e24⟩ := HL.out w hSw
    clear hSw
    go_simp
    try with_reducible rfl
  try simp only [Act.put, List.getElem_toArray, List.getElem_cons_zero, List.getElem_cons_succ, List.setIfInBounds_toArray, List.set_cons_zero, List.set_cons_succ]
  refine wpAnyH_take (i := 2) (v := ?_) rfl (by kernel_rfl) (by kernel_rfl) (by kernel_rfl) (fun _ _ _ h => h) (Or.inl ⟨by rfl, ?_⟩) (by assumption) ?_
  rotate_left
  · intro w hSw
    obtain ⟨e1, e22, e23, e24⟩ := HL.out w hSw
    clear hSw
    go_simp
    try with_reducible rfl
  try simp only [Act.put, List.getElem_toArray, List.getElem_cons_zero, List.getElem_cons_succ, List.setIfInBounds_toArray, List.set_cons_zero, List.set_cons_succ]
  refine wpAnyH_take (i := 3) (v := ?_) rfl (by kernel_rfl) (by kernel_rfl) (by kernel_rfl) (fun _ _ _ h => h) (Or.inl ⟨by rfl, ?_⟩) (by assumption) ?_
  rotate_left
  · intro w hSw
    obtain ⟨e1, e22, e23, e24⟩ := HL.out w hSw
    clear hSw
    go_simp
    try with_reducible rfl
  try simp only [Act.put, List.getElem_toArray, List.getElem_cons_zero, List.getElem_cons_succ, List.setIfInBounds_toArray, List.set_cons_zero, List.set_cons_succ]
  refine wpAnyH_take (i := 4) (v := ?_) rfl (by kernel_rfl) (by kernel_rfl) (by kernel_rfl) (fun _ _ _ h => h) (Or.inl ⟨by rfl, ?_⟩) (by assumption) ?_
  rotate_left
  · intro w hSw
    obtain ⟨e1, e22, e23, e24⟩ := HL.out w hSw
    clear hSw
    go_simp
    try with_reducible rfl
  try simp only [Act.put, List.getElem_toArray, List.getElem_cons_zero, List.getElem_cons_succ, List.setIfInBounds_toArray, List.set_cons_zero, List.set_cons_succ]
  refine wpAnyH_take (i := 5) (v := ?_) rfl (by kernel_rfl) (by kernel_rfl) (by kernel_rfl) (fun _ _ _ h => h) (Or.inl ⟨by rfl, ?_⟩) (by assumption) ?_
  rotate_left
  · intro w hSw
    obtain ⟨e1, e22, e23, e24⟩ := HL.out w hSw
    clear hSw
    go_simp
    try with_reducible rfl
  try simp only [Act.put, List.getElem_toArray, List.getElem_cons_zero, List.getElem_cons_succ, List.setIfInBounds_toArray, List.set_cons_zero, List.set_cons_succ]
  refine wpAnyH_take (i := 6) (v := ?_) rfl (by kernel_rfl) (by kernel_rfl) (by kernel_rfl) (fun _ _ _ h => h) (Or.inl ⟨by rfl, ?_⟩) (by assumption) ?_
  rotate_left
  · intro w hSw
    obtain ⟨e1, e22, e23, e24⟩ := HL.out w hSw
    clear hSw
    go_simp
    try with_reducible rfl
  try simp only [Act.put, List.getElem_toArray, List.getElem_cons_zero, List.getElem_cons_succ, List.setIfInBounds_toArray, List.set_cons_zero, List.set_cons_succ]
  refine wpAnyH_take (i := 7) (v := ?_) rfl (by kernel_rfl) (by kernel_rfl) (by kernel_rfl) (fun _ _ _ h => h) (Or.inl ⟨by rfl, ?_⟩) (by assumption) ?_
  rotate_left
  · intro w hSw
    obtain ⟨e1, e22, e23, e24⟩ := HL.out w hSw
    clear hSw
    go_simp
    try with_reducible rfl
  try simp only [Act.put, List.getElem_toArray, List.getElem_cons_zero, List.getElem_cons_succ, List.setIfInBounds_toArray, List.set_cons_zero, List.set_cons_succ]
  refine wpAnyH_take (i := 8) (v := ?_) rfl (by kernel_rfl) (by kernel_rfl) (by kernel_rfl) (fun _ _ _ h => h) (Or.inl ⟨by rfl, ?_⟩) (by assumption) ?_
  rotate_left
  · intro w hSw
    obtain ⟨e1, e22, e23, e24⟩ := HL.out w hSw
    clear hSw
    go_simp
    try with_reducible rfl
  try simp only [Act.put, List.getElem_toArray, List.getElem_cons_zero, List.getElem_cons_succ, List.setIfInBounds_toArray, List.set_cons_zero, List.set_cons_succ]
  refine wpAnyH_take (i := 9) (v := ?_) rfl (by kernel_rfl) (by kernel_rfl) (by kernel_rfl) (fun _ _ _ h => h) (Or.inl ⟨by rfl, ?_⟩) (by assumption) ?_
  rotate_left
  · intro w hSw
    obtain ⟨e1, e22, e23, e24⟩ := HL.out w hSw
    clear hSw
    go_simp
    try with_reducible rfl
  try simp only [Act.put, List.getElem_toArray, List.getElem_cons_zero, List.getElem_cons_succ, List.setIfInBounds_toArray, List.set_cons_zero, List.set_cons_succ]
  refine wpAnyH_take (i := 10) (v := ?_) rfl (by kernel_rfl) (by kernel_rfl) (by kernel_rfl) (fun _ _ _ h => h) (Or.inl ⟨by rfl, ?_⟩) (by assumption) ?_
  rotate_left
  · intro w hSw
    obtain ⟨e1, e22, e23, e24⟩ := HL.out w hSw
    clear hSw
    go_simp
    try with_reducible rfl
  try simp only [Act.put, List.getElem_toArray, List.getElem_cons_zero, List.getElem_cons_succ, List.setIfInBounds_toArray, List.set_cons_zero, List.set_cons_succ]
  refine wpAnyH_take (i := 11) (v := ?_) rfl (by kernel_rfl) (by kernel_rfl) (by kernel_rfl) (fun _ _ _ h => h) (Or.inl ⟨by rfl, ?_⟩) (by assumption) ?_
  rotate_left
  · intro w hSw
    obtain ⟨e1, e22, e23, e24⟩ := HL.out w hSw
    clear hSw
    go_simp
    try with_reducible rfl
  try simp only [Act.put, List.getElem_toArray, List.getElem_cons_zero, List.getElem_cons_succ, List.setIfInBounds_toArray, List.set_cons_zero, List.set_cons_succ]
  refine wpAnyH_take (i := 12) (v := ?_) rfl (by kernel_rfl) (by kernel_rfl) (by kernel_rfl) (fun _ _ _ h => h) (Or.inl ⟨by rfl, ?_⟩) (by assumption) ?_
  rotate_left
  · intro w hSw
    obtain ⟨e1, e22, e23, e24⟩ := HL.out w hSw
    clear hSw
    go_simp
    try with_reducible rfl
  try simp only [Act.put, List.getElem_toArray, List.getElem_cons_zero, List.getElem_cons_succ, List.setIfInBounds_toArray, List.set_cons_zero, List.set_cons_succ]
  refine wpAnyH_take (i := 13) (v := ?_) rfl (by kernel_rfl) (by kernel_rfl) (by kernel_rfl) (fun _ _ _ h => h) (Or.inl ⟨by rfl, ?_⟩) (by assumption) ?_
  rotate_left
  · intro w hSw
    obtain ⟨e1, e22, e23, e24⟩ := HL.out w hSw
    clear hSw
    go_simp
    try with_reducible rfl
  try simp only [Act.put, List.getElem_toArray, List.getElem_cons_zero, List.getElem_cons_succ, List.setIfInBounds_toArray, List.set_cons_zero, List.set_cons_succ]
  refine wpAnyH_take (i := 14) (v := ?_) rfl (by kernel_rfl) (by kernel_rfl) (by kernel_rfl) (fun _ _ _ h => h) (Or.inl ⟨by rfl, ?_⟩) (by assumption) ?_
  rotate_left
  · intro w hSw
    obtain ⟨e1, e22, e23, e24⟩ := HL.out w hSw
    clear hSw
    go_simp
    try with_reducible rfl
  try simp only [Act.put, List.getElem_toArray, List.getElem_cons_zero, List.getElem_cons_succ, List.setIfInBounds_toArray, List.set_cons_zero, List.set_cons_succ]
  refine wpAnyH_take (i := 15) (v := ?_) rfl (by kernel_rfl) (by kernel_rfl) (by kernel_rfl) (fun _ _ _ h => h) (Or.inl ⟨by rfl, ?_⟩) (by assumption) ?_
  rotate_left
  · intro w hSw
    obtain ⟨e1, e22, e23, e24⟩ := HL.out w hSw
    clear hSw
    go_simp
    try with_reducible rfl
  try simp only [Act.put, List.getElem_toArray, List.getElem_cons_zero, List.getElem_cons_succ, List.setIfInBounds_toArray, List.set_cons_zero, List.set_cons_succ]
  refine wpAnyH_take (i := 16) (v := ?_) rfl (by kernel_rfl) (by kernel_rfl) (by kernel_rfl) (fun _ _ _ h => h) (Or.inl ⟨by rfl, ?_⟩) (by assumption) ?_
  rotate_left
  · intro w hSw
    obtain ⟨e1, e22, e23, e24⟩ := HL.out w hSw
    clear hSw
    go_simp
    try with_reducible rfl
  try simp only [Act.put, List.getElem_toArray, List.getElem_cons_zero, List.getElem_cons_succ, List.setIfInBounds_toArray, List.set_cons_zero, List.set_cons_succ]
  refine wpAnyH_take (i := 17) (v := ?_) rfl (by kernel_rfl) (by kernel_rfl) (by kernel_rfl) (fun _ _ _ h => h) (Or.inl ⟨by rfl, ?_⟩) (by assumption) ?_
  rotate_left
  · intro w hSw
    obtain ⟨e1, e22, e23, e24⟩ := HL.out w hSw
    clear hSw
    go_simp
    try with_reducible rfl
  try simp only [Act.put, List.getElem_toArray, List.getElem_cons_zero, List.getElem_cons_succ, List.setIfInBounds_toArray, List.set_cons_zero, List.set_cons_succ]
  refine wpAnyH_take (i := 18) (v := ?_) rfl (by kernel_rfl) (by kernel_rfl) (by kernel_rfl) (fun _ _ _ h => h) (Or.inl ⟨by rfl, ?_⟩) (by assumption) ?_
  rotate_left
  · intro w hSw
    obtain ⟨e1, e22, e23, e24⟩ := HL.out w hSw
    clear hSw
    go_simp
    try with_reducible rfl
  try simp only [Act.put, List.getElem_toArray, List.getElem_cons_zero, List.getElem_cons_succ, List.setIfInBounds_toArray, List.set_cons_zero, List.set_cons_succ]
  refine wpAnyH_take (i := 19) (v := ?_) rfl (by kernel_rfl) (by kernel_rfl) (by kernel_rfl) (fun _ _ _ h => h) (Or.inl ⟨by rfl, ?_⟩) (by assumption) ?_
  rotate_left
  · intro w hSw
    obtain ⟨e1, e22, e23, e24⟩ := HL.out w hSw
    clear hSw
    go_simp
    try with_reducible rfl
  try simp only [Act.put, List.getElem_toArray, List.getElem_cons_zero, List.getElem_cons_succ, List.setIfInBounds_toArray, List.set_cons_zero, List.set_cons_succ]
  refine wpAnyH_take (i := 20) (v := ?_) rfl (by kernel_rfl) (by kernel_rfl) (by kernel_rfl) (fun _ _ _ h => h) (Or.inl ⟨by rfl, ?_⟩) (by assumption) ?_
  rotate_left
  · intro w hSw
    obtain ⟨e1, e22, e23, e24⟩ := HL.out w hSw
    clear hSw
    go_simp
    try with_reducible rfl
  try simp only [Act.put, List.getElem_toArray, List.getElem_cons_zero, List.getElem_cons_succ, List.setIfInBounds_toArray, List.set_cons_zero, List.set_cons_succ]
  refine wpAnyH_take (i := 21) (v := ?_) rfl (by kernel_rfl) (by kernel_rfl) (by kernel_rfl) (fun _ _ _ h => h) (Or.inl ⟨by rfl, ?_⟩) (by assumption) ?_
  rotate_left
  · intro w hSw
    obtain ⟨e1, e22, e23, e24⟩ := HL.out w hSw
    clear hSw
    go_simp
    try with_reducible rfl
  try simp only [Act.put, List.getElem_toArray, List.getElem_cons_zero, List.getElem_cons_succ, List.setIfInBounds_toArray, List.set_cons_zero, List.set_cons_succ]
  refine wpAnyH_take (i := 22) (v := ?_) rfl (by kernel_rfl) (by kernel_rfl) (by kernel_rfl) (fun _ _ _ h => h) (Or.inl ⟨by rfl, ?_⟩) (by assumption) ?_
  rotate_left
  · intro w hSw
    obtain ⟨e1, e22, e23, e24⟩ := HL.out w hSw
    clear hSw
    go_simp
    try with_reducible rfl
  try simp only [Act.put, List.getElem_toArray, List.getElem_cons_zero, List.getElem_cons_succ, List.setIfInBounds_toArray, List.set_cons_zero, List.set_cons_succ]
  refine wpAnyH_take (i := 23) (v := ?_) rfl (by kernel_rfl) (by kernel_rfl) (by kernel_rfl) (fun _ _ _ h => h) (Or.inl ⟨by rfl, ?_⟩) (by assumption) ?_
  rotate_left
  · intro w hSw
    obtain ⟨e1, e22, e23, e24⟩ := HL.out w hSw
    clear hSw
    go_simp
    try with_reducible rfl
  try simp only [Act.put, List.getElem_toArray, List.getElem_cons_zero, List.getElem_cons_succ, List.setIfInBounds_toArray, List.set_cons_zero, List.set_cons_succ]
  refine wpAnyH_take (i := 24) (v := ?_) rfl (by kernel_rfl) (by kernel_rfl) (by kernel_rfl) (fun _ _ _ h => h) (Or.inl ⟨by rfl, ?_⟩) (by assumption) ?_
  rotate_left
  · intro w hSw
    obtain ⟨e1, e22, e23, e24⟩ := HL.out w hSw
    clear hSw
    go_simp
    try with_reducible rfl
  try simp only [Act.put, List.getElem_toArray, List.getElem_cons_zero, List.getElem_cons_succ, List.setIfInBounds_toArray, List.set_cons_zero, List.set_cons_succ]
  refine wpAnyH_take (i := 25) (v := ?_) rfl (by kernel_rfl) (by kernel_rfl) (by kernel_rfl) (fun _ _ _ h => h) (Or.inl ⟨by rfl, ?_⟩) (by assumption) ?_
  rotate_left
  · intro w hSw
    obtain ⟨e1, e22, e23, e24⟩ := HL.out w hSw
    clear hSw
    go_simp
    try with_reducible rfl
  try simp only [Act.put, List.getElem_toArray, List.getElem_cons_zero, List.getElem_cons_succ, List.setIfInBounds_toArray, List.set_cons_zero, List.set_cons_succ]
  refine wpAnyH_take (i := 26) (v := ?_) rfl (by kernel_rfl) (by kernel_rfl) (by kernel_rfl) (fun _ _ _ h => h) (Or.inl ⟨by rfl, ?_⟩) (by assumption) ?_
  rotate_left
  · intro w hSw
    obtain ⟨e1, e22, e23, e24⟩ := HL.out w hSw
    clear hSw
    go_simp
    try with_reducible rfl
  try simp only [Act.put, List.getElem_toArray, List.getElem_cons_zero, List.getElem_cons_succ, List.setIfInBounds_toArray, List.set_cons_zero, List.set_cons_succ]
  refine wpAnyH_take (i := 27) (v := ?_) rfl (by kernel_rfl) (by kernel_rfl) (by kernel_rfl) (fun _ _ _ h => h) (Or.inl ⟨by rfl, ?_⟩) (by assumption) ?_
  rotate_left
  · intro w hSw
    obtain ⟨e1, e22, e23, e24⟩ := HL.out w hSw
    clear hSw
    go_simp
    try with_reducible rfl
  try simp only [Act.put, List.getElem_toArray, List.getElem_cons_zero, List.getElem_cons_succ, List.setIfInBounds_toArray, List.set_cons_zero, List.set_cons_succ]
  refine wpAnyH_take (i := 28) (v := ?_) rfl (by kernel_rfl) (by kernel_rfl) (by kernel_rfl) (fun _ _ _ h => h) (Or.inl ⟨by rfl, ?_⟩) (by assumption) ?_
  rotate_left
  · intro w hSw
    obtain ⟨e1, e22, e23, e24⟩ := HL.out w hSw
    clear hSw
    go_simp
    try with_reducible rfl
  try simp only [Act.put, List.getElem_toArray, List.getElem_cons_zero, List.getElem_cons_succ, List.setIfInBounds_toArray, List.set_cons_zero, List.set_cons_succ]
  refine wpAnyH_take (i := 29) (v := ?_) rfl (by kernel_rfl) (by kernel_rfl) (by kernel_rfl) (fun _ _ _ h => h) (Or.inl ⟨by rfl, ?_⟩) (by assumption) ?_
  rotate_left
  · intro w hSw
    obtain ⟨e1, e22, e23, e24⟩ := HL.out w hSw
    clear hSw
    go_simp
    try with_reducible rfl
  try simp only [Act.put, List.getElem_toArray, List.getElem_cons_zero, List.getElem_cons_succ, List.setIfInBounds_toArray, List.set_cons_zero, List.set_cons_succ]
  refine wpAnyH_take (i := 30) (v := ?_) rfl (by kernel_rfl) (by kernel_rfl) (by kernel_rfl) (fun _ _ _ h => h) (Or.inl ⟨by rfl, ?_⟩) (by assumption) ?_
  rotate_left
  · intro w hSw
    obtain ⟨e1, e22, e23, e24⟩ := HL.out w hSw
    clear hSw
    go_simp
    try with_reducible rfl
  try simp only [Act.put, List.getElem_toArray, List.getElem_cons_zero, List.getElem_cons_succ, List.setIfInBounds_toArray, List.set_cons_zero, List.set_cons_succ]
  refine wpAnyH_take (i := 31) (v := ?_) rfl (by kernel_rfl) (by kernel_rfl) (by kernel_rfl) (fun _ _ _ h => h) (Or.inl ⟨by rfl, ?_⟩) (by assumption) ?_
  rotate_left
  · intro w hSw
    obtain ⟨e1, e22, e23, e24⟩ := HL.out w hSw
    clear hSw
    go_simp
    try with_reducible rfl
  try simp only [Act.put, List.getElem_toArray, List.getElem_cons_zero, List.getElem_cons_succ, List.setIfInBounds_toArray, List.set_cons_zero, List.set_cons_succ]
  refine wpAnyH_take (i := 32) (v := .slice (some ⟨b, off', none⟩) (n - 26) (c - 26)) rfl (by kernel_rfl) (by kernel_rfl) (by kernel_rfl) (fun _ _ _ h => h) (Or.inl ⟨by rfl, ?_⟩) (by assumption) ?_
  · intro w hSw
    clear hSw
    go_simp
    exact HOF.out
  try simp only [Act.put, List.getElem_toArray, List.getElem_cons_zero, List.getElem_cons_succ, List.setIfInBounds_toArray, List.set_cons_zero, List.set_cons_succ]
  clear x1 x2 x3 x4 x5 x6
  refine wpAnyH_ready (rs := [33, 35]) (by kernel_rfl) (by simp) ?_
  refine AllReadyH.cons rfl (fun K hK => ?_) (AllReadyH.cons rfl (fun K hK => ?_) AllReadyH.nil)
  · go_simp
    refine (clone_any b off' (n - 26) (c - 26) (xs.drop 26) _ (HRD.out.drewN 1) (by omega)).mono ?_
    rintro e w2 ⟨g, cap, rfl, hO, hb⟩
    have HO := Lib.hid (show OwnB w2 w1.heap.size 5 .u8 g (n - 26) cap (xs.drop 26) from hO)
    have HB2 := Lib.hid (show Below w1.heap.size w1 w2 from (Below.refl _ _).drew.trans hb)
    clear hO hb
    refine hK.out _ _ HB2.out (fun hHeld => ?_)
    clear hK K
    try simp only [Act.put, List.getElem_toArray, List.getElem_cons_zero, List.getElem_cons_succ, List.setIfInBounds_toArray, List.set_cons_zero, List.set_cons_succ]
    refine wpAnyH_take (i := 34) (v := .agg (⟨⟨0, 0, 0, 0, 0, 0⟩, ⟨0, 0, 0, 0, 0, 0⟩, ⟨0, 0, 0, 0, 0, 0⟩, bits .andNot .u8 v24 16, v22 / 16 + v23 * 16, bits .and .u8 v1 8 != 0, bits .and .u8 v1 32 != 0, bits .and .u8 v24 16 != 0, some ⟨g, 0, none⟩, n - 26, cap⟩ : Qf).cells) rfl (by kernel_rfl) (by kernel_rfl) (by kernel_rfl) (fun _ _ _ h => h) (Or.inl ⟨by rfl, ?_⟩) (by assumption) ?_
    · intro w hSw
      clear hSw
      go_simp
    try simp only [Act.put, List.getElem_toArray, List.getElem_cons_zero, List.getElem_cons_succ, List.setIfInBounds_toArray, List.set_cons_zero, List.set_cons_succ]
    refine wpAnyH_ready (rs := [35]) (by kernel_rfl) (by simp) ?_
    refine AllReadyH.cons rfl (fun K hK => ?_) AllReadyH.nil
    have HZ := Lib.hid (show (w2.alloc (.cells q0.cells 26)).heap[w2.heap.size]? = _ from heap_alloc_last w2 _)
    have HB4 := Lib.hid (HB2.out.alloc HB2.out.size (.cells q0.cells 26))
    have HG4 := Lib.hid HB2.out.size
    have HO4 := Lib.hid (HO.out.below ((Below.refl w2.heap.size w2).alloc (Nat.le_refl _) (.cells q0.cells 26)) HO.out.lt.2)
    have HNr := Lib.hid (show g ≠ w.heap.size by have h1 : w1.heap.size ≤ g := HO.out.lt.1; have := HLT.out; omega)
    have HN4 := Lib.hid (show g ≠ w2.heap.size by have := HO.out.lt.2; omega)
    go_simp
    refine hK.out _ _ HB4.out (fun hHeld => ?_)
    clear hK K hHeld
    dsimp only [q0, Qf.cells] at HZ HB4 HO4
    generalize World.alloc w2 _ = w5 at *
    have hHeld := HB4.out
    generalize w2.heap.size = g4 at *
    try simp only [Act.put, List.getElem_toArray, List.getElem_cons_zero, List.getElem_cons_succ, List.setIfInBounds_toArray, List.set_cons_zero, List.set_cons_succ]
    refine wpAnyH_ready (rs := [36]) (by kernel_rfl) (by simp) ?_
    refine AllReadyH.cons rfl (fun K hK => ?_) AllReadyH.nil
    rw [if_pos (by rfl)]
    refine wp_store_row _ _ _ rfl _ (⟨⟨0, 0, 0, 0, 0, 0⟩, ⟨0, 0, 0, 0, 0, 0⟩, ⟨0, 0, 0, 0, 0, 0⟩, bits .andNot .u8 v24 16, v22 / 16 + v23 * 16, bits .and .u8 v1 8 != 0, bits .and .u8 v1 32 != 0, bits .and .u8 v24 16 != 0, some ⟨g, 0, none⟩, n - 26, cap⟩ : Qf).cells rfl rfl 26 q0.cells HZ.out size26 rfl (Qf.oneCell _) ?_
    have HB3 := Lib.hid (below_setRow HB4.out (show w1.heap.size ≤ g4 from HG4.out) (⟨⟨0, 0, 0, 0, 0, 0⟩, ⟨0, 0, 0, 0, 0, 0⟩, ⟨0, 0, 0, 0, 0, 0⟩, bits .andNot .u8 v24 16, v22 / 16 + v23 * 16, bits .and .u8 v1 8 != 0, bits .and .u8 v1 32 != 0, bits .and .u8 v24 16 != 0, some ⟨g, 0, none⟩, n - 26, cap⟩ : Qf).cells)
    have HG3 := Lib.hid (setRow_heap _ _ _ (⟨⟨0, 0, 0, 0, 0, 0⟩, ⟨0, 0, 0, 0, 0, 0⟩, ⟨0, 0, 0, 0, 0, 0⟩, bits .andNot .u8 v24 16, v22 / 16 + v23 * 16, bits .and .u8 v1 8 != 0, bits .and .u8 v1 32 != 0, bits .and .u8 v24 16 != 0, some ⟨g, 0, none⟩, n - 26, cap⟩ : Qf).cells _ _ HZ.out)
    have HO3 := Lib.hid (HO4.out.of_block (setRow_other _ _ _ (⟨⟨0, 0, 0, 0, 0, 0⟩, ⟨0, 0, 0, 0, 0, 0⟩, ⟨0, 0, 0, 0, 0, 0⟩, bits .andNot .u8 v24 16, v22 / 16 + v23 * 16, bits .and .u8 v1 8 != 0, bits .and .u8 v1 32 != 0, bits .and .u8 v24 16 != 0, some ⟨g, 0, none⟩, n - 26, cap⟩ : Qf).cells HN4.out))
    refine hK.out _ _ HB3.out (fun hHeld => ?_)
    clear hK K hHeld
    refine wpAnyH_done (by kernel_rfl) ?_ _
    try simp only [Act.put, List.getElem_toArray, List.getElem_cons_zero, List.getElem_cons_succ, List.setIfInBounds_toArray, List.set_cons_zero, List.set_cons_succ]
    generalize World.setRow _ _ _ = w3 at *
    clear HZ HB4 HO4
    have d4 : (c = 4) = False := by simp; omega
    have d10 : (c = 10) = False := by simp; omega
    have d16 : (c = 16) = False := by simp; omega
    have k4 : (4 : Int) ≤ (n : Int) := by omega
    have k10 : (10 : Int) ≤ (n : Int) := by omega
    have k16 : (16 : Int) ≤ (n : Int) := by omega
    have HM4 := Lib.hid (show (six xs 4).cells.toList.length = Nat.min (n - 4) 6 by show 6 = min (n - 4) 6; omega)
    have HM10 := Lib.hid (show (six xs 10).cells.toList.length = Nat.min (n - 10) 6 by show 6 = min (n - 10) 6; omega)
    have HM16 := Lib.hid (show (six xs 16).cells.toList.length = Nat.min (n - 16) 6 by show 6 = min (n - 16) 6; omega)
    have HR3 := Lib.hid (HR.out.below HB3.out)
    go_wp2
    go_region_law ((refine step_copy_into rfl (.tmp 67) (.tmp 69) 24 5 rfl Tryd.underlying24 sizeU8 g4 0 6 6 ⟨b, off + 4, none⟩ (n - 4) (c - 4) rfl rfl (⟨⟨0, 0, 0, 0, 0, 0⟩, ⟨0, 0, 0, 0, 0, 0⟩, ⟨0, 0, 0, 0, 0, 0⟩, bits .andNot .u8 v24 16, v22 / 16 + v23 * 16, bits .and .u8 v1 8 != 0, bits .and .u8 v1 32 != 0, bits .and .u8 v24 16 != 0, some ⟨g, 0, none⟩, n - 26, cap⟩ : Qf).cells (⟨six xs 4, ⟨0, 0, 0, 0, 0, 0⟩, ⟨0, 0, 0, 0, 0, 0⟩, bits .andNot .u8 v24 16, v22 / 16 + v23 * 16, bits .and .u8 v1 8 != 0, bits .and .u8 v1 32 != 0, bits .and .u8 v24 16 != 0, some ⟨g, 0, none⟩, n - 26, cap⟩ : Qf).cells 26 HG3.out (six xs 4).cells.toList HM4.out (six_cells (HR3.out.drewN 1) 4 (by omega)) (by simp) (six xs 4).one rfl ?_; intro w6 hg ho hb))
    have HG3' := Lib.hid hg.out
    have HB3' := Lib.hid (hb.out w1.heap.size w1 HB3.out.drew HG4.out)
    have HR3' := Lib.hid (HR.out.below HB3'.out)
    have HO3' := Lib.hid (HO3.out.of_block (ho.out g HN4.out))
    clear HG3 HB3 HR3 HO3 hg hb ho
    have HG3 := HG3'
    have HB3 := HB3'
    have HR3 := HR3'
    have HO3 := HO3'
    clear HG3' HB3' HR3' HO3'
    go_wp2
    go_region_law ((refine step_copy_into rfl (.tmp 72) (.tmp 74) 24 5 rfl Tryd.underlying24 sizeU8 g4 6 6 6 ⟨b, off + 10, none⟩ (n - 10) (c - 10) rfl rfl (⟨six xs 4, ⟨0, 0, 0, 0, 0, 0⟩, ⟨0, 0, 0, 0, 0, 0⟩, bits .andNot .u8 v24 16, v22 / 16 + v23 * 16, bits .and .u8 v1 8 != 0, bits .and .u8 v1 32 != 0, bits .and .u8 v24 16 != 0, some ⟨g, 0, none⟩, n - 26, cap⟩ : Qf).cells (⟨six xs 4, six xs 10, ⟨0, 0, 0, 0, 0, 0⟩, bits .andNot .u8 v24 16, v22 / 16 + v23 * 16, bits .and .u8 v1 8 != 0, bits .and .u8 v1 32 != 0, bits .and .u8 v24 16 != 0, some ⟨g, 0, none⟩, n - 26, cap⟩ : Qf).cells 26 HG3.out (six xs 10).cells.toList HM10.out (six_cells (HR3.out.drewN 1) 10 (by omega)) (by simp) (six xs 10).one rfl ?_; intro w7 hg ho hb))
    have HG3' := Lib.hid hg.out
    have HB3' := Lib.hid (hb.out w1.heap.size w1 HB3.out.drew HG4.out)
    have HR3' := Lib.hid (HR.out.below HB3'.out)
    have HO3' := Lib.hid (HO3.out.of_block (ho.out g HN4.out))
    clear HG3 HB3 HR3 HO3 hg hb ho
    have HG3 := HG3'
    have HB3 := HB3'
    have HR3 := HR3'
    have HO3 := HO3'
    clear HG3' HB3' HR3' HO3'
    go_wp2
    go_region_law ((refine step_copy_into rfl (.tmp 77) (.tmp 79) 24 5 rfl Tryd.underlying24 sizeU8 g4 12 6 6 ⟨b, off + 16, none⟩ (n - 16) (c - 16) rfl rfl (⟨six xs 4, six xs 10, ⟨0, 0, 0, 0, 0, 0⟩, bits .andNot .u8 v24 16, v22 / 16 + v23 * 16, bits .and .u8 v1 8 != 0, bits .and .u8 v1 32 != 0, bits .and .u8 v24 16 != 0, some ⟨g, 0, none⟩, n - 26, cap⟩ : Qf).cells (⟨six xs 4, six xs 10, six xs 16, bits .andNot .u8 v24 16, v22 / 16 + v23 * 16, bits .and .u8 v1 8 != 0, bits .and .u8 v1 32 != 0, bits .and .u8 v24 16 != 0, some ⟨g, 0, none⟩, n - 26, cap⟩ : Qf).cells 26 HG3.out (six xs 16).cells.toList HM16.out (six_cells (HR3.out.drewN 1) 16 (by omega)) (by simp) (six xs 16).one rfl ?_; intro w8 hg ho hb))
    have HG3' := Lib.hid hg.out
    have HB3' := Lib.hid (hb.out w1.heap.size w1 HB3.out.drew HG4.out)
    have HR3' := Lib.hid (HR.out.below HB3'.out)
    have HO3' := Lib.hid (HO3.out.of_block (ho.out g HN4.out))
    clear HG3 HB3 HR3 HO3 hg hb ho
    have HG3 := HG3'
    have HB3 := HB3'
    have HR3 := HR3'
    have HO3 := HO3'
    clear HG3' HB3' HR3' HO3'
    have HGr := Lib.hid (show w8.heap[w.heap.size]? = some (.cells q0.cells 26 (0, 0)) from (HB3.out.block _ HLT.out).trans HG.out)
    go_wp2_with (first | (refine wpList_load_row rfl 26 (.tmp 4) rfl g4 rfl 26 (⟨six xs 4, six xs 10, six xs 16, bits .andNot .u8 v24 16, v22 / 16 + v23 * 16, bits .and .u8 v1 8 != 0, bits .and .u8 v1 32 != 0, bits .and .u8 v24 16 != 0, some ⟨g, 0, none⟩, n - 26, cap⟩ : Qf).cells (0, 0) _ HG3.out Tryd.underlying26 rfl size26 ?_) | (refine wpList_store_row rfl 26 (.tmp 2) (.tmp 81) rfl w.heap.size (⟨six xs 4, six xs 10, six xs 16, bits .andNot .u8 v24 16, v22 / 16 + v23 * 16, bits .and .u8 v1 8 != 0, bits .and .u8 v1 32 != 0, bits .and .u8 v24 16 != 0, some ⟨g, 0, none⟩, n - 26, cap⟩ : Qf).cells rfl rfl 26 q0.cells HGr.out size26 rfl (Qf.oneCell _) ?_))
    have HGz := Lib.hid (setRow_heap w8 w.heap.size q0.cells (⟨six xs 4, six xs 10, six xs 16, bits .andNot .u8 v24 16, v22 / 16 + v23 * 16, bits .and .u8 v1 8 != 0, bits .and .u8 v1 32 != 0, bits .and .u8 v24 16 != 0, some ⟨g, 0, none⟩, n - 26, cap⟩ : Qf).cells 26 (0, 0) HGr.out)
    have HE := Lib.hid (show (⟨six xs 4, six xs 10, six xs 16, bits .andNot .u8 v24 16, v22 / 16 + v23 * 16, bits .and .u8 v1 8 != 0, bits .and .u8 v1 32 != 0, bits .and .u8 v24 16 != 0, some ⟨g, 0, none⟩, n - 26, cap⟩ : Qf) = decQ xs (some ⟨g, 0, none⟩) (n - 26) cap by unfold decQ; rw [H1.out, H22.out, H23.out, H24.out])
    refine bodyPost_ret (v := .tuple #[(⟨six xs 4, six xs 10, six xs 16, bits .andNot .u8 v24 16, v22 / 16 + v23 * 16, bits .and .u8 v1 8 != 0, bits .and .u8 v1 32 != 0, bits .and .u8 v24 16 != 0, some ⟨g, 0, none⟩, n - 26, cap⟩ : Qf).val, .nilIface]) (results_cell_slot (p := 2) (q := 3) Tryd.results12 _ _ w.heap.size _ (⟨six xs 4, six xs 10, six xs 16, bits .andNot .u8 v24 16, v22 / 16 + v23 * 16, bits .and .u8 v1 8 != 0, bits .and .u8 v1 32 != 0, bits .and .u8 v24 16 != 0, some ⟨g, 0, none⟩, n - 26, cap⟩ : Qf).cells _ _ rfl HGz.out Tryd.underlying26 rfl size26) rfl ⟨g, cap, by rw [HE.out], ?_, ?_⟩
    · exact (HO3.out.of_block (setRow_other _ _ _ _ HNr.out)).base (Nat.le_of_lt HLT.out)
    · exact below_setRow (HB.out.trans (HB3.out.mono (Nat.le_of_lt HLT.out))) (Nat.le_refl _) _
  · have HZ1 := Lib.hid (show (w1.alloc (.cells q0.cells 26)).drew.heap[w1.heap.size]? = _ from heap_alloc_last w1 _)
    have HB1 := Lib.hid (((Below.refl w1.heap.size w1).alloc (Nat.le_refl _) (.cells q0.cells 26)).drew)
    have HS1 := Lib.hid (show w1.heap.size < (w1.alloc (.cells q0.cells 26)).drew.heap.size by simp)
    have HG4 := Lib.hid (Nat.le_refl w1.heap.size)
    dsimp only [q0, Qf.cells] at HZ1 HB1 HS1
    go_simp
    generalize World.drew (World.alloc w1 _) = w5 at *
    refine hK.out _ _ HB1.out (fun hHeld => ?_)
    clear hK K
    try simp only [Act.put, List.getElem_toArray, List.getElem_cons_zero, List.getElem_cons_succ, List.setIfInBounds_toArray, List.set_cons_zero, List.set_cons_succ]
    refine wpAnyH_ready (rs := [33]) (by kernel_rfl) (by simp) ?_
    refine AllReadyH.cons rfl (fun K hK => ?_) AllReadyH.nil
    go_simp
    refine (clone_any b off' (n - 26) (c - 26) (xs.drop 26) _ (HRD.out.below HB1.out) (by omega)).mono ?_
    rintro e w2 ⟨g, cap, rfl, hO, hb⟩
    have HO := Lib.hid (hO.base (Nat.le_of_lt HS1.out))
    have HO4 := HO
    have HB4 := Lib.hid (show Below w1.heap.size w1 w2 from HB1.out.trans (hb.mono HB1.out.size))
    have HZ := Lib.hid ((hb.block _ HS1.out).trans HZ1.out)
    have HN4 := Lib.hid (show g ≠ w1.heap.size by have := hO.lt.1; have := HS1.out; omega)
    have HNr := Lib.hid (show g ≠ w.heap.size by have h1 : w1.heap.size ≤ g := HO.out.lt.1; have := HLT.out; omega)
    clear hO hb HZ1 hHeld
    dsimp only
    refine hK.out _ _ HB4.out (fun hHeld => ?_)
    clear hK K
    try simp only [Act.put, List.getElem_toArray, List.getElem_cons_zero, List.getElem_cons_succ, List.setIfInBounds_toArray, List.set_cons_zero, List.set_cons_succ]
    refine wpAnyH_take (i := 34) (v := .agg (⟨⟨0, 0, 0, 0, 0, 0⟩, ⟨0, 0, 0, 0, 0, 0⟩, ⟨0, 0, 0, 0, 0, 0⟩, bits .andNot .u8 v24 16, v22 / 16 + v23 * 16, bits .and .u8 v1 8 != 0, bits .and .u8 v1 32 != 0, bits .and .u8 v24 16 != 0, some ⟨g, 0, none⟩, n - 26, cap⟩ : Qf).cells) rfl (by kernel_rfl) (by kernel_rfl) (by kernel_rfl) (fun _ _ _ h => h) (Or.inl ⟨by rfl, ?_⟩) (by assumption) ?_
    · intro w hSw
      clear hSw
      go_simp
    try simp only [Act.put, List.getElem_toArray, List.getElem_cons_zero, List.getElem_cons_succ, List.setIfInBounds_toArray, List.set_cons_zero, List.set_cons_succ]
    refine wpAnyH_ready (rs := [36]) (by kernel_rfl) (by simp) ?_
    refine AllReadyH.cons rfl (fun K hK => ?_) AllReadyH.nil
    rw [if_pos (by rfl)]
    refine wp_store_row _ _ _ rfl _ (⟨⟨0, 0, 0, 0, 0, 0⟩, ⟨0, 0, 0, 0, 0, 0⟩, ⟨0, 0, 0, 0, 0, 0⟩, bits .andNot .u8 v24 16, v22 / 16 + v23 * 16, bits .and .u8 v1 8 != 0, bits .and .u8 v1 32 != 0, bits .and .u8 v24 16 != 0, some ⟨g, 0, none⟩, n - 26, cap⟩ : Qf).cells rfl rfl 26 q0.cells HZ.out size26 rfl (Qf.oneCell _) ?_
    have HB3 := Lib.hid (below_setRow HB4.out (Nat.le_refl w1.heap.size) (⟨⟨0, 0, 0, 0, 0, 0⟩, ⟨0, 0, 0, 0, 0, 0⟩, ⟨0, 0, 0, 0, 0, 0⟩, bits .andNot .u8 v24 16, v22 / 16 + v23 * 16, bits .and .u8 v1 8 != 0, bits .and .u8 v1 32 != 0, bits .and .u8 v24 16 != 0, some ⟨g, 0, none⟩, n - 26, cap⟩ : Qf).cells)
    have HG3 := Lib.hid (setRow_heap _ _ _ (⟨⟨0, 0, 0, 0, 0, 0⟩, ⟨0, 0, 0, 0, 0, 0⟩, ⟨0, 0, 0, 0, 0, 0⟩, bits .andNot .u8 v24 16, v22 / 16 + v23 * 16, bits .and .u8 v1 8 != 0, bits .and .u8 v1 32 != 0, bits .and .u8 v24 16 != 0, some ⟨g, 0, none⟩, n - 26, cap⟩ : Qf).cells _ _ HZ.out)
    have HO3 := Lib.hid (HO4.out.of_block (setRow_other _ _ _ (⟨⟨0, 0, 0, 0, 0, 0⟩, ⟨0, 0, 0, 0, 0, 0⟩, ⟨0, 0, 0, 0, 0, 0⟩, bits .andNot .u8 v24 16, v22 / 16 + v23 * 16, bits .and .u8 v1 8 != 0, bits .and .u8 v1 32 != 0, bits .and .u8 v24 16 != 0, some ⟨g, 0, none⟩, n - 26, cap⟩ : Qf).cells HN4.out))
    refine hK.out _ _ HB3.out (fun hHeld => ?_)
    clear hK K hHeld
    refine wpAnyH_done (by kernel_rfl) ?_ _
    try simp only [Act.put, List.getElem_toArray, List.getElem_cons_zero, List.getElem_cons_succ, List.setIfInBounds_toArray, List.set_cons_zero, List.set_cons_succ]
    generalize World.setRow _ _ _ = w3 at *
    clear HZ HB4 HO4
    have d4 : (c = 4) = False := by simp; omega
    have d10 : (c = 10) = False := by simp; omega
    have d16 : (c = 16) = False := by simp; omega
    have k4 : (4 : Int) ≤ (n : Int) := by omega
    have k10 : (10 : Int) ≤ (n : Int) := by omega
    have k16 : (16 : Int) ≤ (n : Int) := by omega
    have HM4 := Lib.hid (show (six xs 4).cells.toList.length = Nat.min (n - 4) 6 by show 6 = min (n - 4) 6; omega)
    have HM10 := Lib.hid (show (six xs 10).cells.toList.length = Nat.min (n - 10) 6 by show 6 = min (n - 10) 6; omega)
    have HM16 := Lib.hid (show (six xs 16).cells.toList.length = Nat.min (n - 16) 6 by show 6 = min (n - 16) 6; omega)
    have HR3 := Lib.hid (HR.out.below HB3.out)
    go_wp2
    go_region_law ((refine step_copy_into rfl (.tmp 67) (.tmp 69) 24 5 rfl Tryd.underlying24 sizeU8 w1.heap.size 0 6 6 ⟨b, off + 4, none⟩ (n - 4) (c - 4) rfl rfl (⟨⟨0, 0, 0, 0, 0, 0⟩, ⟨0, 0, 0, 0, 0, 0⟩, ⟨0, 0, 0, 0, 0, 0⟩, bits .andNot .u8 v24 16, v22 / 16 + v23 * 16, bits .and .u8 v1 8 != 0, bits .and .u8 v1 32 != 0, bits .and .u8 v24 16 != 0, some ⟨g, 0, none⟩, n - 26, cap⟩ : Qf).cells (⟨six xs 4, ⟨0, 0, 0, 0, 0, 0⟩, ⟨0, 0, 0, 0, 0, 0⟩, bits .andNot .u8 v24 16, v22 / 16 + v23 * 16, bits .and .u8 v1 8 != 0, bits .and .u8 v1 32 != 0, bits .and .u8 v24 16 != 0, some ⟨g, 0, none⟩, n - 26, cap⟩ : Qf).cells 26 HG3.out (six xs 4).cells.toList HM4.out (six_cells (HR3.out.drewN 1) 4 (by omega)) (by simp) (six xs 4).one rfl ?_; intro w6 hg ho hb))
    have HG3' := Lib.hid hg.out
    have HB3' := Lib.hid (hb.out w1.heap.size w1 HB3.out.drew HG4.out)
    have HR3' := Lib.hid (HR.out.below HB3'.out)
    have HO3' := Lib.hid (HO3.out.of_block (ho.out g HN4.out))
    clear HG3 HB3 HR3 HO3 hg hb ho
    have HG3 := HG3'
    have HB3 := HB3'
    have HR3 := HR3'
    have HO3 := HO3'
    clear HG3' HB3' HR3' HO3'
    go_wp2
    go_region_law ((refine step_copy_into rfl (.tmp 72) (.tmp 74) 24 5 rfl Tryd.underlying24 sizeU8 w1.heap.size 6 6 6 ⟨b, off + 10, none⟩ (n - 10) (c - 10) rfl rfl (⟨six xs 4, ⟨0, 0, 0, 0, 0, 0⟩, ⟨0, 0, 0, 0, 0, 0⟩, bits .andNot .u8 v24 16, v22 / 16 + v23 * 16, bits .and .u8 v1 8 != 0, bits .and .u8 v1 32 != 0, bits .and .u8 v24 16 != 0, some ⟨g, 0, none⟩, n - 26, cap⟩ : Qf).cells (⟨six xs 4, six xs 10, ⟨0, 0, 0, 0, 0, 0⟩, bits .andNot .u8 v24 16, v22 / 16 + v23 * 16, bits .and .u8 v1 8 != 0, bits .and .u8 v1 32 != 0, bits .and .u8 v24 16 != 0, some ⟨g, 0, none⟩, n - 26, cap⟩ : Qf).cells 26 HG3.out (six xs 10).cells.toList HM10.out (six_cells (HR3.out.drewN 1) 10 (by omega)) (by simp) (six xs 10).one rfl ?_; intro w7 hg ho hb))
    have HG3' := Lib.hid hg.out
    have HB3' := Lib.hid (hb.out w1.heap.size w1 HB3.out.drew HG4.out)
    have HR3' := Lib.hid (HR.out.below HB3'.out)
    have HO3' := Lib.hid (HO3.out.of_block (ho.out g HN4.out))
    clear HG3 HB3 HR3 HO3 hg hb ho
    have HG3 := HG3'
    have HB3 := HB3'
    have HR3 := HR3'
    have HO3 := HO3'
    clear HG3' HB3' HR3' HO3'
    go_wp2
    go_region_law ((refine step_copy_into rfl (.tmp 77) (.tmp 79) 24 5 rfl Tryd.underlying24 sizeU8 w1.heap.size 12 6 6 ⟨b, off + 16, none⟩ (n - 16) (c - 16) rfl rfl (⟨six xs 4, six xs 10, ⟨0, 0, 0, 0, 0, 0⟩, bits .andNot .u8 v24 16, v22 / 16 + v23 * 16, bits .and .u8 v1 8 != 0, bits .and .u8 v1 32 != 0, bits .and .u8 v24 16 != 0, some ⟨g, 0, none⟩, n - 26, cap⟩ : Qf).cells (⟨six xs 4, six xs 10, six xs 16, bits .andNot .u8 v24 16, v22 / 16 + v23 * 16, bits .and .u8 v1 8 != 0, bits .and .u8 v1 32 != 0, bits .and .u8 v24 16 != 0, some ⟨g, 0, none⟩, n - 26, cap⟩ : Qf).cells 26 HG3.out (six xs 16).cells.toList HM16.out (six_cells (HR3.out.drewN 1) 16 (by omega)) (by simp) (six xs 16).one rfl ?_; intro w8 hg ho hb))
    have HG3' := Lib.hid hg.out
    have HB3' := Lib.hid (hb.out w1.heap.size w1 HB3.out.drew HG4.out)
    have HR3' := Lib.hid (HR.out.below HB3'.out)
    have HO3' := Lib.hid (HO3.out.of_block (ho.out g HN4.out))
    clear HG3 HB3 HR3 HO3 hg hb ho
    have HG3 := HG3'
    have HB3 := HB3'
    have HR3 := HR3'
    have HO3 := HO3'
    clear HG3' HB3' HR3' HO3'
    have HGr := Lib.hid (show w8.heap[w.heap.size]? = some (.cells q0.cells 26 (0, 0)) from (HB3.out.block _ HLT.out).trans HG.out)
    go_wp2_with (first | (refine wpList_load_row rfl 26 (.tmp 4) rfl w1.heap.size rfl 26 (⟨six xs 4, six xs 10, six xs 16, bits .andNot .u8 v24 16, v22 / 16 + v23 * 16, bits .and .u8 v1 8 != 0, bits .and .u8 v1 32 != 0, bits .and .u8 v24 16 != 0, some ⟨g, 0, none⟩, n - 26, cap⟩ : Qf).cells (0, 0) _ HG3.out Tryd.underlying26 rfl size26 ?_) | (refine wpList_store_row rfl 26 (.tmp 2) (.tmp 81) rfl w.heap.size (⟨six xs 4, six xs 10, six xs 16, bits .andNot .u8 v24 16, v22 / 16 + v23 * 16, bits .and .u8 v1 8 != 0, bits .and .u8 v1 32 != 0, bits .and .u8 v24 16 != 0, some ⟨g, 0, none⟩, n - 26, cap⟩ : Qf).cells rfl rfl 26 q0.cells HGr.out size26 rfl (Qf.oneCell _) ?_))
    have HGz := Lib.hid (setRow_heap w8 w.heap.size q0.cells (⟨six xs 4, six xs 10, six xs 16, bits .andNot .u8 v24 16, v22 / 16 + v23 * 16, bits .and .u8 v1 8 != 0, bits .and .u8 v1 32 != 0, bits .and .u8 v24 16 != 0, some ⟨g, 0, none⟩, n - 26, cap⟩ : Qf).cells 26 (0, 0) HGr.out)
    have HE := Lib.hid (show (⟨six xs 4, six xs 10, six xs 16, bits .andNot .u8 v24 16, v22 / 16 + v23 * 16, bits .and .u8 v1 8 != 0, bits .and .u8 v1 32 != 0, bits .and .u8 v24 16 != 0, some ⟨g, 0, none⟩, n - 26, cap⟩ : Qf) = decQ xs (some ⟨g, 0, none⟩) (n - 26) cap by unfold decQ; rw [H1.out, H22.out, H23.out, H24.out])
    refine bodyPost_ret (v := .tuple #[(⟨six xs 4, six xs 10, six xs 16, bits .andNot .u8 v24 16, v22 / 16 + v23 * 16, bits .and .u8 v1 8 != 0, bits .and .u8 v1 32 != 0, bits .and .u8 v24 16 != 0, some ⟨g, 0, none⟩, n - 26, cap⟩ : Qf).val, .nilIface]) (results_cell_slot (p := 2) (q := 3) Tryd.results12 _ _ w.heap.size _ (⟨six xs 4, six xs 10, six xs 16, bits .andNot .u8 v24 16, v22 / 16 + v23 * 16, bits .and .u8 v1 8 != 0, bits .and .u8 v1 32 != 0, bits .and .u8 v24 16 != 0, some ⟨g, 0, none⟩, n - 26, cap⟩ : Qf).cells _ _ rfl HGz.out Tryd.underlying26 rfl size26) rfl ⟨g, cap, by rw [HE.out], ?_, ?_⟩
    · exact (HO3.out.of_block (setRow_other _ _ _ _ HNr.out)).base (Nat.le_of_lt HLT.out)
    · exact below_setRow (HB.out.trans (HB3.out.mono (Nat.le_of_lt HLT.out))) (Nat.le_refl _) _
end Go.Proofs.YtogcpommidfmnaaDoor
