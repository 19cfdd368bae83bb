/-
  CONTRACT of the reference's ReadTim.
-/
import Derived.Test.YtocghdjadojimaaDoorTimY
namespace Go.Proofs.YtocghdjadojimaaDoor
open Go.ChangeShapes Go.WideShapes Go.ChangeAt Go.RowKit
set_option linter.unusedVariables false
set_option linter.unusedSimpArgs false

theorem sameB_comm (xs ys : List Int) : sameB xs ys = sameB ys xs := by unfold sameB; rw [Bool.eq_iff_iff]; simp only [decide_eq_true_eq]; exact eq_comm
theorem sizeSI : (Tryd.prog.info? 22).map (·.size) = some 1 := by kernel_rfl
theorem owns_one {w : World} {base : Nat} {e : TypeId} {size n : Nat} {v : Value} {xs : List Value} (h : w.ownsRow base e size v n xs) : v.oneCell' = true := by
  rcases h.2 with ⟨rfl, _⟩ | ⟨g, cap, cur, rfl, _⟩ <;> rfl
theorem owns_other {w w' : World} {base : Nat} {e : TypeId} {size n : Nat} {v : Value} {xs : List Value} (h : w.ownsRow base e size v n xs) (hw : ∀ b, base ≤ b → w'.heap[b]? = w.heap[b]?) : w'.ownsRow base e size v n xs := by
  refine ⟨h.1, ?_⟩
  rcases h.2 with hn | ⟨g, cap, cur, hv, hb, hg, rest⟩
  · exact .inl hn
  · exact .inr ⟨g, cap, cur, hv, hb, (hw g hb).trans hg, rest⟩
theorem low8_nat : ∀ n : Nat, n < 256 → bits .and .u8 (n : Int) 1 = (n : Int) % 2 ∧ bits .andNot .u8 (n : Int) 1 = (n : Int) - (n : Int) % 2 := by decide +kernel
theorem low8_of (v : Int) (h : 0 ≤ v ∧ v ≤ 255) : bits .and .u8 v 1 = v % 2 ∧ bits .andNot .u8 v 1 = v - v % 2 := by
  obtain ⟨m, rfl⟩ := Int.eq_ofNat_of_zero_le h.1
  exact low8_nat m (by omega)
/-- what the reference's ReadTim hands back. -/
def OutR (xs : List Int) (n : Nat) (w : World) (e : Ending) (w' : World) : Prop := ∃ A' k', e = .returned (.tuple #[(outT xs n).val A' (outT xs n).l.length k', .int .i64 (rdT xs n : Nat)]) ∧ RowB .i64 w' A' (outT xs n).l.length (outT xs n).l ∧ Below w.heap.size w w'
theorem OutR.of {xs : List Int} {n : Nat} {w : World} {e : Ending} {w' : World} (A' : Option Addr) (k' : Nat) (h1 : e = .returned (.tuple #[(outT xs n).val A' (outT xs n).l.length k', .int .i64 (rdT xs n : Nat)])) (h2 : RowB .i64 w' A' (outT xs n).l.length (outT xs n).l) (h3 : Below w.heap.size w w') : OutR xs n w e w' := ⟨A', k', h1, h2, h3⟩
theorem ret_t {a : Value} {v w : Value} (h : w = v) : Ending.returned (.tuple #[a, v]) = .returned (.tuple #[a, w]) := by rw [h]
set_option maxRecDepth 100000 in
set_option maxHeartbeats 8000000 in
theorem refread_beg (A : Option Addr) (n c : Nat) (xs : List Int) (w : World) (h : RowB .u8 w A n xs) (hb : frmT xs n ≠ 0) :
    Calls Tryd.prog 12 #[.slice A n c] w fun e w' => e = .returned (.tuple #[.agg t0c, .int .i64 (frmT xs n : Nat)]) ∧ Below w.heap.size w w' := by
  have HB := Lib.hid ((Below.refl w.heap.size w).alloc (Nat.le_refl _) (.cells t0c 24))
  have HG := Lib.hid (heap_alloc_last w (.cells t0c 24))
  have hle := h.le
  unfold maxLen at hle
  have h := h.below HB.out
  have HN := Lib.hid (show Value.int .i64 (frmT xs n : Nat) ≠ .int .i64 0 from fun h => hb (by injection h with _ h; exact_mod_cast h))
  have HE := Lib.hid (show Value.int .i64 (frmT xs n : Nat) = if n < 2 then .int .i64 101 else if xs.getD 0 0 ≠ 5 then .int .i64 105 else if (n : Int) - 2 < xs.getD 1 0 then .int .i64 101 else if xs.getD 1 0 < (n : Int) - 2 ∨ xs.getD 1 0 < 4 then .int .i64 102 else .int .i64 0 by
    unfold frmT
    repeat' split
    all_goals rfl)
  generalize Value.int .i64 (frmT xs n : Nat) = r at *
  clear hb
  by_cases hp : n < 2
  · have hp1 : decide ((n : Int) ≤ 1) = true := by simp; omega
    have hp2 : decide ((n : Int) < 2) = true := by simp; omega
    clear h
    have HV := Lib.hid (show r = .int .i64 101 by rw [HE.out, if_pos hp])
    go_enter Tryd.func12, Tryd.ntmps12
    go_wp2_with (first | (refine wpList_store_row rfl 24 (.tmp 2) (.tmp 13) rfl w.heap.size t0c rfl rfl 24 t0c HG.out sizeTim rfl (t0.oneCell none 0 0) ?_; rw [setRow_same _ _ _ _ _ HG.out]))
    refine bodyPost_ret (v := .tuple #[.agg t0c, .int .i64 101]) (results_cell_slot (p := 2) (q := 3) Tryd.results12 _ _ w.heap.size _ t0c _ _ rfl HG.out Tryd.underlying24 rfl sizeTim) rfl ⟨ret_t HV.out, HB.out⟩
  have hp1 : decide ((n : Int) ≤ 1) = false := by simp; omega
  have hp2 : decide ((n : Int) < 2) = false := by simp; omega
  obtain ⟨b, off, rfl, hc⟩ := h.cells (by omega)
  have c0 := hc 0 (by omega)
  rw [Nat.add_zero] at c0
  have c1 := hc 1 (by omega)
  have b0 : (0 : Int) < (n : Int) := by omega
  have b1 : (1 : Int) < (n : Int) := by omega
  obtain ⟨v1a, v1b⟩ := h.wf8 1 (by omega)
  have HE1 := Lib.hid (show r = if xs.getD 0 0 ≠ 5 then .int .i64 105 else if (n : Int) - 2 < xs.getD 1 0 then .int .i64 101 else if xs.getD 1 0 < (n : Int) - 2 ∨ xs.getD 1 0 < 4 then .int .i64 102 else .int .i64 0 by rw [HE.out, if_neg hp])
  clear HE hc h hp
  generalize xs.getD 0 0 = v0 at *
  generalize xs.getD 1 0 = v1 at *
  cases e0 : (v0 != 5)
  case true =>
    have HV := Lib.hid (show r = .int .i64 105 by rw [HE1.out, if_pos (by simpa using e0)])
    go_enter Tryd.func12, Tryd.ntmps12
    go_wp2_with (first | (refine wpList_store_row rfl 24 (.tmp 2) (.tmp 18) rfl w.heap.size t0c rfl rfl 24 t0c HG.out sizeTim rfl (t0.oneCell none 0 0) ?_; rw [setRow_same _ _ _ _ _ HG.out]))
    refine bodyPost_ret (v := .tuple #[.agg t0c, .int .i64 105]) (results_cell_slot (p := 2) (q := 3) Tryd.results12 _ _ w.heap.size _ t0c _ _ rfl HG.out Tryd.underlying24 rfl sizeTim) rfl ⟨ret_t HV.out, HB.out⟩
  have HE2 := Lib.hid (show r = if (n : Int) - 2 < v1 then .int .i64 101 else if v1 < (n : Int) - 2 ∨ v1 < 4 then .int .i64 102 else .int .i64 0 by rw [HE1.out, if_neg (by simpa using e0)])
  clear HE1
  cases d1 : decide ((n : Int) - 2 < v1)
  case true =>
    have HV := Lib.hid (show r = .int .i64 101 by rw [HE2.out, if_pos (of_decide_eq_true d1)])
    go_enter Tryd.func12, Tryd.ntmps12
    go_wp2_with (first | (refine wpList_store_row rfl 24 (.tmp 2) (.tmp 27) rfl w.heap.size t0c rfl rfl 24 t0c HG.out sizeTim rfl (t0.oneCell none 0 0) ?_; rw [setRow_same _ _ _ _ _ HG.out]))
    refine bodyPost_ret (v := .tuple #[.agg t0c, .int .i64 101]) (results_cell_slot (p := 2) (q := 3) Tryd.results12 _ _ w.heap.size _ t0c _ _ rfl HG.out Tryd.underlying24 rfl sizeTim) rfl ⟨ret_t HV.out, HB.out⟩
  cases d2 : decide (v1 < (n : Int) - 2)
  case true =>
    have HV := Lib.hid (show r = .int .i64 102 by rw [HE2.out, if_neg (of_decide_eq_false d1), if_pos (.inl (of_decide_eq_true d2))])
    go_enter Tryd.func12, Tryd.ntmps12
    go_wp2_with (first | (refine wpList_store_row rfl 24 (.tmp 2) (.tmp 42) rfl w.heap.size t0c rfl rfl 24 t0c HG.out sizeTim rfl (t0.oneCell none 0 0) ?_; rw [setRow_same _ _ _ _ _ HG.out]))
    refine bodyPost_ret (v := .tuple #[.agg t0c, .int .i64 102]) (results_cell_slot (p := 2) (q := 3) Tryd.results12 _ _ w.heap.size _ t0c _ _ rfl HG.out Tryd.underlying24 rfl sizeTim) rfl ⟨ret_t HV.out, HB.out⟩
  cases d3 : decide (v1 < 4)
  case true =>
    have d3' : decide (v1 ≤ 3) = true := by simp at d3 ⊢; omega
    have HV := Lib.hid (show r = .int .i64 102 by rw [HE2.out, if_neg (of_decide_eq_false d1), if_pos (.inr (of_decide_eq_true d3))])
    go_enter Tryd.func12, Tryd.ntmps12
    go_wp2_with (first | (refine wpList_store_row rfl 24 (.tmp 2) (.tmp 42) rfl w.heap.size t0c rfl rfl 24 t0c HG.out sizeTim rfl (t0.oneCell none 0 0) ?_; rw [setRow_same _ _ _ _ _ HG.out]))
    refine bodyPost_ret (v := .tuple #[.agg t0c, .int .i64 102]) (results_cell_slot (p := 2) (q := 3) Tryd.results12 _ _ w.heap.size _ t0c _ _ rfl HG.out Tryd.underlying24 rfl sizeTim) rfl ⟨ret_t HV.out, HB.out⟩
  exact absurd (show r = .int .i64 0 by rw [HE2.out, if_neg (of_decide_eq_false d1), if_neg (by have := of_decide_eq_false d2; have := of_decide_eq_false d3; omega)]) HN.out
set_option maxRecDepth 100000 in
set_option maxHeartbeats 8000000 in
theorem refread_fit (A : Option Addr) (n c : Nat) (xs : List Int) (w : World) (h : RowB .u8 w A n xs) (hb : frmT xs n = 0) :
    Calls Tryd.prog 12 #[.slice A n c] w fun e w' => OutR xs n w e w' := by
  obtain ⟨i0, hi0, hz0, hz1, hz2⟩ := info_parts int_info
  obtain ⟨b1, b2, b3, b4⟩ := frmT_fine hb
  have hl := h.len
  have x1 := h.wf8 1 (by omega)
  obtain ⟨N, rfl⟩ : ∃ N, n = N + 5 := ⟨n - 5, by omega⟩
  have hN1 : 1 ≤ N := by omega
  have hN2 : N ≤ 252 := by omega
  have hb3 : xs.getD 1 0 = (N : Int) + 3 := by omega
  clear b1 b3 b4 x1
  obtain ⟨b, off, rfl, -⟩ := h.cells (by omega)
  have HR := Lib.hid h
  have HB := Lib.hid ((Below.refl w.heap.size w).alloc (Nat.le_refl _) (.cells t0c 24))
  have HG := Lib.hid (heap_alloc_last w (.cells t0c 24))
  have HD := Lib.hid (show decT xs = ⟨xs.getD 2 0, xs.getD 3 0, xs.getD 4 0 % 2 != 0, says (xs.getD 4 0 - xs.getD 4 0 % 2) (xs.drop 5)⟩ from rfl)
  have HNO := Lib.hid (fun h1 => rdT_no (n := N + 5) hb h1)
  have HBAD := Lib.hid (fun h1 h2 => rdT_bad (n := N + 5) hb h1 h2)
  have HGOOD := Lib.hid (fun h1 h2 => rdT_good (n := N + 5) hb h1 h2)
  have W4 := Lib.hid (h.wf8 4 (by omega))
  have W2 := Lib.hid (h.wf8 2 (by omega))
  have W3 := Lib.hid (h.wf8 3 (by omega))
  have HX := Lib.hid (low8_of _ W4.out)
  have HQ := Lib.hid (fun (w' : World) (hB : Below w.heap.size w w') (i : Nat) (hi : i < N + 5) => (h.below hB).at_ i hi)
  have hq2 : ∀ (w' : World) (hB : Below w.heap.size w w'), w'.cell? ⟨b, off + 2, none⟩ = some (.int .u8 (xs.getD 2 0)) := fun w' hB => HQ.out w' hB 2 (by omega)
  have hq3 : ∀ (w' : World) (hB : Below w.heap.size w w'), w'.cell? ⟨b, off + 3, none⟩ = some (.int .u8 (xs.getD 3 0)) := fun w' hB => HQ.out w' hB 3 (by omega)
  have hq4 : ∀ (w' : World) (hB : Below w.heap.size w w'), w'.cell? ⟨b, off + 4, none⟩ = some (.int .u8 (xs.getD 4 0)) := fun w' hB => HQ.out w' hB 4 (by omega)
  have c0 := HQ.out _ HB.out 0 (by omega)
  rw [Nat.add_zero, b2] at c0
  have c1 := HQ.out _ HB.out 1 (by omega)
  rw [hb3] at c1
  have HYL := Lib.hid (show (xs.drop 5).length = N by rw [List.length_drop, hl]; omega)
  have HSAYS := Lib.hid (show says (xs.getD 4 0 - xs.getD 4 0 % 2) (xs.drop 5) = saysTo (xs.getD 4 0 - xs.getD 4 0 % 2) (xs.drop 5) (8 * N) by unfold says; rw [HYL.out])
  have HYQ := Lib.hid (show ∀ (w' : World) (hB : Below w.heap.size w w') (k : Nat) (hk : k < N), w'.cell? ⟨b, off + (k + 5), none⟩ = some (.int .u8 ((xs.drop 5).getD k 0)) from fun w' hB k hk => by
    rw [drop_getD, Nat.add_comm 5 k]; exact HQ.out w' hB (k + 5) (by omega))
  have HYW := Lib.hid (show ∀ k, k < N → 0 ≤ (xs.drop 5).getD k 0 ∧ (xs.drop 5).getD k 0 ≤ 255 from fun k hk => by
    rw [drop_getD]; exact h.wf8 (5 + k) (by omega))
  have HQ2 := Lib.hid hq2
  have HQ3 := Lib.hid hq3
  have HQ4 := Lib.hid hq4
  clear hq2 hq3 hq4 hb3 b2
  generalize xs.drop 5 = ys at *
  generalize hL : says (xs.getD 4 0 - xs.getD 4 0 % 2) ys = L at *
  generalize xs.getD 2 0 = v2 at *
  generalize xs.getD 3 0 = v3 at *
  generalize xs.getD 4 0 = v4 at *
  obtain ⟨hx1, hx2⟩ := HX.out
  have HLR := Lib.hid (show (∀ a ∈ L, -9223372036854775808 ≤ a ∧ a ≤ 9223372036854775807) ∧ L.length ≤ 8 * N by
    have := W4.out
    refine ⟨?_, ?_⟩
    · rw [← hL]; exact says_in (by omega) (by omega) (by rw [HYL.out]; omega)
    · rw [← hL]; have := says_len (v4 - v4 % 2) ys; rw [HYL.out] at this; exact this)
  generalize hF : v4 - v4 % 2 = F at *
  have hFr : 0 ≤ F ∧ F ≤ 255 := by have := W4.out; omega
  obtain ⟨hF0, hF1⟩ := hFr
  have y2 : IntKind.i64.wrap v2 = v2 := IntWalk.i64_in _ ⟨by have := W2.out; omega, by have := W2.out; omega⟩
  have y3 : IntKind.i64.wrap v3 = v3 := IntWalk.i64_in _ ⟨by have := W3.out; omega, by have := W3.out; omega⟩
  have HSN := Lib.hid (fun k j hj => saysTo_next F ys k j hj)
  have HSL := Lib.hid (fun m => saysTo_le F ys m)
  clear h hb hL hF HX hl
  have hn1 : decide ((N : Int) + 5 < 2) = false := by simp; omega
  have hn2 : decide ((N : Int) + 5 ≤ 1) = false := by simp; omega
  have hi0' : (0 : Int) < (N : Int) + 5 := by omega
  have hi1' : (1 : Int) < (N : Int) + 5 := by omega
  have hi2' : (2 : Int) < (N : Int) + 5 := by omega
  have hi3' : (3 : Int) < (N : Int) + 5 := by omega
  have hi4' : (4 : Int) < (N : Int) + 5 := by omega
  have hj2 : (2 : Int) < ((N + 5 : Nat) : Int) := by omega
  have hj3 : (3 : Int) < ((N + 5 : Nat) : Int) := by omega
  have hj4 : (4 : Int) < ((N + 5 : Nat) : Int) := by omega
  have e1 : decide ((N : Int) + 5 - 2 < (N : Int) + 3) = false := by simp; omega
  have e2 : decide ((N : Int) + 3 < (N : Int) + 5 - 2) = false := by simp; omega
  have e3 : decide ((N : Int) + 3 < 4) = false := by simp; omega
  have e4 : decide ((N : Int) + 3 ≤ 3) = false := by simp; omega
  go_enter Tryd.func12, Tryd.ntmps12
  go_wp2
  generalize World.alloc w _ = w1 at *
  clear c0 c1
  refine wp_region_held_drew (S := fun w' => Below w1.heap.size w1 w') (by kernel_rfl) (Below.refl _ _).drew (fun hHeld => ?_)
  have HQ2' := Lib.hid (fun (w' : World) (hB : Below w1.heap.size w1 w') => HQ2.out w' (HB.out.trans (hB.mono HB.out.size)))
  have HQ3' := Lib.hid (fun (w' : World) (hB : Below w1.heap.size w1 w') => HQ3.out w' (HB.out.trans (hB.mono HB.out.size)))
  have HQ4' := Lib.hid (fun (w' : World) (hB : Below w1.heap.size w1 w') => HQ4.out w' (HB.out.trans (hB.mono HB.out.size)))
  generalize World.drew w1 = w2 at *
  have HB2 := Lib.hid hHeld
  have HSZ := Lib.hid (lt_blk HG.out)
  refine wpAnyH_take (i := 0) (v := ?_) rfl (by kernel_rfl) (by kernel_rfl) (by kernel_rfl) (fun _ _ _ h => h) (Or.inl ⟨by rfl, ?_⟩) (by assumption) ?_
  rotate_left
  · intro w hSw
    clear hSw
    go_simp
    try with_reducible rfl
  try simp only [Act.put, List.getElem_toArray, List.getElem_cons_zero, List.getElem_cons_succ, List.setIfInBounds_toArray, List.set_cons_zero, List.set_cons_succ]
  refine wpAnyH_take (i := 1) (v := ?_) rfl (by kernel_rfl) (by kernel_rfl) (by kernel_rfl) (fun _ _ _ h => h) (Or.inl ⟨by rfl, ?_⟩) (by assumption) ?_
  rotate_left
  · intro w hSw
    clear hSw
    go_simp
    try with_reducible rfl
  try simp only [Act.put, List.getElem_toArray, List.getElem_cons_zero, List.getElem_cons_succ, List.setIfInBounds_toArray, List.set_cons_zero, List.set_cons_succ]
  refine wpAnyH_take (i := 2) (v := ?_) rfl (by kernel_rfl) (by kernel_rfl) (by kernel_rfl) (fun _ _ _ h => h) (Or.inl ⟨by rfl, ?_⟩) (by assumption) ?_
  rotate_left
  · intro w hSw
    have c := HQ2'.out w hSw
    clear hSw
    go_simp
    try with_reducible rfl
  try simp only [Act.put, List.getElem_toArray, List.getElem_cons_zero, List.getElem_cons_succ, List.setIfInBounds_toArray, List.set_cons_zero, List.set_cons_succ]
  refine wpAnyH_take (i := 3) (v := ?_) rfl (by kernel_rfl) (by kernel_rfl) (by kernel_rfl) (fun _ _ _ h => h) (Or.inl ⟨by rfl, ?_⟩) (by assumption) ?_
  rotate_left
  · intro w hSw
    clear hSw
    go_simp
    try with_reducible rfl
  try simp only [Act.put, List.getElem_toArray, List.getElem_cons_zero, List.getElem_cons_succ, List.setIfInBounds_toArray, List.set_cons_zero, List.set_cons_succ]
  refine wpAnyH_take (i := 4) (v := ?_) rfl (by kernel_rfl) (by kernel_rfl) (by kernel_rfl) (fun _ _ _ h => h) (Or.inl ⟨by rfl, ?_⟩) (by assumption) ?_
  rotate_left
  · intro w hSw
    clear hSw
    go_simp
    try with_reducible rfl
  try simp only [Act.put, List.getElem_toArray, List.getElem_cons_zero, List.getElem_cons_succ, List.setIfInBounds_toArray, List.set_cons_zero, List.set_cons_succ]
  refine wpAnyH_take (i := 5) (v := ?_) rfl (by kernel_rfl) (by kernel_rfl) (by kernel_rfl) (fun _ _ _ h => h) (Or.inl ⟨by rfl, ?_⟩) (by assumption) ?_
  rotate_left
  · intro w hSw
    clear hSw
    go_simp
    try with_reducible rfl
  try simp only [Act.put, List.getElem_toArray, List.getElem_cons_zero, List.getElem_cons_succ, List.setIfInBounds_toArray, List.set_cons_zero, List.set_cons_succ]
  refine wpAnyH_take (i := 6) (v := ?_) rfl (by kernel_rfl) (by kernel_rfl) (by kernel_rfl) (fun _ _ _ h => h) (Or.inl ⟨by rfl, ?_⟩) (by assumption) ?_
  rotate_left
  · intro w hSw
    have c := HQ3'.out w hSw
    clear hSw
    go_simp
    try with_reducible rfl
  try simp only [Act.put, List.getElem_toArray, List.getElem_cons_zero, List.getElem_cons_succ, List.setIfInBounds_toArray, List.set_cons_zero, List.set_cons_succ]
  refine wpAnyH_take (i := 7) (v := ?_) rfl (by kernel_rfl) (by kernel_rfl) (by kernel_rfl) (fun _ _ _ h => h) (Or.inl ⟨by rfl, ?_⟩) (by assumption) ?_
  rotate_left
  · intro w hSw
    clear hSw
    go_simp
    try with_reducible rfl
  try simp only [Act.put, List.getElem_toArray, List.getElem_cons_zero, List.getElem_cons_succ, List.setIfInBounds_toArray, List.set_cons_zero, List.set_cons_succ]
  refine wpAnyH_take (i := 8) (v := ?_) rfl (by kernel_rfl) (by kernel_rfl) (by kernel_rfl) (fun _ _ _ h => h) (Or.inl ⟨by rfl, ?_⟩) (by assumption) ?_
  rotate_left
  · intro w hSw
    clear hSw
    go_simp
    try with_reducible rfl
  try simp only [Act.put, List.getElem_toArray, List.getElem_cons_zero, List.getElem_cons_succ, List.setIfInBounds_toArray, List.set_cons_zero, List.set_cons_succ]
  refine wpAnyH_take (i := 9) (v := ?_) rfl (by kernel_rfl) (by kernel_rfl) (by kernel_rfl) (fun _ _ _ h => h) (Or.inl ⟨by rfl, ?_⟩) (by assumption) ?_
  rotate_left
  · intro w hSw
    clear hSw
    go_simp
    try with_reducible rfl
  try simp only [Act.put, List.getElem_toArray, List.getElem_cons_zero, List.getElem_cons_succ, List.setIfInBounds_toArray, List.set_cons_zero, List.set_cons_succ]
  refine wpAnyH_take (i := 10) (v := ?_) rfl (by kernel_rfl) (by kernel_rfl) (by kernel_rfl) (fun _ _ _ h => h) (Or.inl ⟨by rfl, ?_⟩) (by assumption) ?_
  rotate_left
  · intro w hSw
    have c := HQ4'.out w hSw
    clear hSw
    go_simp
    try with_reducible rfl
  try simp only [Act.put, List.getElem_toArray, List.getElem_cons_zero, List.getElem_cons_succ, List.setIfInBounds_toArray, List.set_cons_zero, List.set_cons_succ]
  refine wpAnyH_take (i := 11) (v := ?_) rfl (by kernel_rfl) (by kernel_rfl) (by kernel_rfl) (fun _ _ _ h => h) (Or.inl ⟨by rfl, ?_⟩) (by assumption) ?_
  rotate_left
  · intro w hSw
    clear hSw
    go_simp
    try with_reducible rfl
  try simp only [Act.put, List.getElem_toArray, List.getElem_cons_zero, List.getElem_cons_succ, List.setIfInBounds_toArray, List.set_cons_zero, List.set_cons_succ]
  refine wpAnyH_take (i := 12) (v := ?_) rfl (by kernel_rfl) (by kernel_rfl) (by kernel_rfl) (fun _ _ _ h => h) (Or.inl ⟨by rfl, ?_⟩) (by assumption) ?_
  rotate_left
  · intro w hSw
    clear hSw
    go_simp
    try with_reducible rfl
  try simp only [Act.put, List.getElem_toArray, List.getElem_cons_zero, List.getElem_cons_succ, List.setIfInBounds_toArray, List.set_cons_zero, List.set_cons_succ]
  refine wpAnyH_take (i := 13) (v := .agg #[.int .i64 v2, .int .i64 v3, .bool (v4 % 2 != 0), .slice none 0 0]) rfl (by kernel_rfl) (by kernel_rfl) (by kernel_rfl) (fun _ _ _ h => h) (Or.inl ⟨by rfl, ?_⟩) (by assumption) ?_
  · intro w hSw
    clear hSw
    go_simp
  try simp only [Act.put, List.getElem_toArray, List.getElem_cons_zero, List.getElem_cons_succ, List.setIfInBounds_toArray, List.set_cons_zero, List.set_cons_succ]
  refine wpAnyH_ready (rs := [14]) (by kernel_rfl) (by simp) ?_
  refine AllReadyH.cons rfl (fun K hK => ?_) AllReadyH.nil
  have HZ3 := Lib.hid (heap_alloc_last w2 (.cells t0c 24))
  have HB3 := Lib.hid (HB2.out.alloc HB2.out.size (.cells t0c 24))
  have HE3 := Lib.hid (show w2.heap.size < (w2.alloc (.cells t0c 24)).heap.size by simp)
  have HGE := Lib.hid HB2.out.size
  clear hHeld
  go_simp
  refine hK.out _ _ HB3.out (fun hHeld => ?_)
  clear hK K
  dsimp only [t0c, t0, Tm.cells] at HZ3 HB3 HE3 hHeld
  generalize World.alloc w2 _ = w3 at *
  generalize w2.heap.size = h4 at *
  try simp only [Act.put, List.getElem_toArray, List.getElem_cons_zero, List.getElem_cons_succ, List.setIfInBounds_toArray, List.set_cons_zero, List.set_cons_succ]
  refine wpAnyH_ready (rs := [15]) (by kernel_rfl) (by simp) ?_
  refine AllReadyH.cons rfl (fun K hK => ?_) AllReadyH.nil
  rw [if_pos (by rfl)]
  refine wp_store_row _ _ _ rfl _ #[.int .i64 v2, .int .i64 v3, .bool (v4 % 2 != 0), .slice none 0 0] rfl rfl 24 t0c HZ3.out sizeTim rfl (by simp [Value.oneCell']) ?_
  have HBZ := Lib.hid (below_setRow HB3.out HGE.out #[.int .i64 v2, .int .i64 v3, .bool (v4 % 2 != 0), .slice none 0 0])
  have HFZ := Lib.hid (setRow_heap _ _ _ #[.int .i64 v2, .int .i64 v3, .bool (v4 % 2 != 0), .slice none 0 0] _ _ HZ3.out)
  clear hHeld
  refine hK.out _ _ HBZ.out (fun hHeld => ?_)
  clear hK K hHeld
  refine wpAnyH_done (by kernel_rfl) ?_ _
  try simp only [Act.put, List.getElem_toArray, List.getElem_cons_zero, List.getElem_cons_succ, List.setIfInBounds_toArray, List.set_cons_zero, List.set_cons_succ]
  generalize World.setRow _ _ _ = w5 at *
  have T0 := Lib.hid (HB.out.trans (HBZ.out.mono HB.out.size))
  have T1 := Lib.hid ((HBZ.out.block _ (lt_blk HG.out)).trans HG.out)
  have HNE := Lib.hid (show w.heap.size ≠ h4 by have := HSZ.out; have := HGE.out; omega)
  have HH4 := Lib.hid (lt_blk HFZ.out)
  have HWH := Lib.hid (show w.heap.size ≤ h4 by have := HSZ.out; have := HGE.out; omega)
  clear HB HG HBZ HB2 HB3 HZ3 HE3 HQ2' HQ3' HQ4'
  have HB := T0
  have HG := T1
  clear T0 T1
  have c4 := HQ4.out w5 HB.out
  go_wp2
  go_loopw [6] (fun i wr => ∃ k : Nat, k ≤ N ∧ i = .int .i64 ((k : Int) + 5) ∧ ∃ v, True ∧ wr.heap[h4]? = some (.cells #[.int .i64 v2, .int .i64 v3, .bool (v4 % 2 != 0), v] 24 (0, 0)) ∧ wr.ownsRow w5.heap.size 3 1 v (saysTo F ys (8 * k)).length ((saysTo F ys (8 * k)).map (Value.int .i64)) ∧ Below w.heap.size w wr ∧ wr.heap[w.heap.size]? = some (.cells t0c 24 (0, 0)) ∧ w5.heap.size ≤ wr.heap.size) (fun i _ => N + 5 - (intOf i).toNat)
  case atStart => exact ⟨0, by omega, rfl, .slice none 0 0, trivial, HFZ.out, World.ownsRow_nil _ _ _ _, HB.out, HG.out, Nat.le_refl _⟩
  case round =>
    obtain ⟨k, hk, rfl, v, -, hf, hown, hbel, hblk, hsz⟩ := hrel
    have HF := Lib.hid hf
    have HO := Lib.hid hown
    have T0 := Lib.hid hbel
    have T1 := Lib.hid hblk
    have HZ := Lib.hid hsz
    clear hf hown hbel hblk hsz HB HG HFZ c4
    have HB := T0
    have HG := T1
    clear T0 T1
    by_cases hlt : k < N
    · have hc := HYQ.out wr HB.out k hlt
      have HY := Lib.hid (HYW.out k hlt)
      have HBT := Lib.hid (fun j hj => bit_of (ys.getD k 0) j HY.out hj)
      have HSN2 := Lib.hid (fun j hj => HSN.out k j hj)
      have hi : (k : Int) + 5 < (N : Int) + 5 := by omega
      have HYK := Lib.hid (fun (w' : World) (hB : Below w.heap.size w w') => HYQ.out w' hB k hlt)
      generalize ys.getD k 0 = y at *
      go_wp2
      go_loopw [7] (fun i wr => ∃ j : Nat, j ≤ 8 ∧ i = .int .i64 j ∧ ∃ v, True ∧ wr.heap[h4]? = some (.cells #[.int .i64 v2, .int .i64 v3, .bool (v4 % 2 != 0), v] 24 (0, 0)) ∧ wr.ownsRow w5.heap.size 3 1 v (saysTo F ys (8 * k + j)).length ((saysTo F ys (8 * k + j)).map (Value.int .i64)) ∧ Below w.heap.size w wr ∧ wr.heap[w.heap.size]? = some (.cells t0c 24 (0, 0)) ∧ w5.heap.size ≤ wr.heap.size) (fun i _ => 8 - (intOf i).toNat)
      case atStart => exact ⟨0, by omega, rfl, v, trivial, HF.out, HO.out, HB.out, HG.out, HZ.out⟩
      case round =>
        obtain ⟨j, hj, rfl, v, -, hf, hown, hbel, hblk, hsz⟩ := hrel
        clear HF HO HB HG HZ hc
        have HF := Lib.hid hf
        have HO := Lib.hid hown
        have HB := Lib.hid hbel
        have HG := Lib.hid hblk
        have HZ := Lib.hid hsz
        clear hf hown hbel hblk hsz
        by_cases hjt : j < 8
        · have hc := HYK.out wr HB.out
          have hb := HBT.out j hjt
          have HS := Lib.hid (HSN2.out j hjt)
          have HLL := Lib.hid (HSL.out (8 * k + j))
          generalize hV : y / 2 ^ j % 2 = V at *
          generalize saysTo F ys (8 * k + j) = acc at *
          have hV01 : V = 0 ∨ V = 1 := by omega
          have HVV := Lib.hid hV
          clear hV
          have z1 : IntKind.u64.wrap (j : Int) = (j : Int) := IntWalk.u64_in _ ⟨by omega, by omega⟩
          rcases hV01 with rfl | rfl
          · go_wp2
            go_roundw
            case rel => exact ⟨j + 1, by omega, by go_num, v, trivial, HF.out, by rw [HS.out]; simpa using HO.out, HB.out, HG.out, HZ.out⟩
            case measure => simp [intOf]; omega
          · have hacc := HLL.out
            have d3 : wr.cell? ⟨h4, 3, none⟩ = some v := cell_of_row wr _ 3 _ _ _ HF.out
            go_wp2_with (first
              | (at_builtin; refine wpList_append_own _ rfl (.tmp 82) (.tmp 90) 22 rfl w5.heap.size 3 i0 _ 1 8 Tryd.underlying22 hi0 hz0 hz1 hz2 rfl (by omega) v acc.length _ rfl (HO.out.alloc _) ⟨wr.heap.size, 0, none⟩ 1 1 [.int .i64 (8 * (F + ((k : Int) + 5) - 5) + (j : Int))] rfl rfl (cell_one_new _ _ _) (by intro u hu; simp at hu; subst hu; rfl) (by unfold maxLen; omega) (by omega) (by have := HZ.out; simp; omega) ?_; intro v' w6 hown' hgrow' _; have HO3 := Lib.hid hown'; have HV1 := Lib.hid (owns_one hown'); have HA := Lib.hid (((Below.refl w5.heap.size wr).alloc HZ.out (.cells #[.int .i64 (8 * (F + ((k : Int) + 5) - 5) + (j : Int))] 3)).grown hgrow' (by have := HZ.out; simp; omega) (by intro q hq; exact (HO.out.lt q hq).1)); have HF6 := Lib.hid ((HA.out.block h4 HH4.out).trans HF.out); have HB6 := Lib.hid (HB.out.trans (HA.out.mono (by have := HWH.out; have := HH4.out; omega))); have HG6 := Lib.hid ((HA.out.block w.heap.size (by have := HWH.out; have := HH4.out; omega)).trans HG.out); have HZ6 := Lib.hid (Nat.le_trans HZ.out HA.out.size); clear hown' hgrow' HO HF HB HG HZ HA d3 hc)
              | (refine wpList_store_into rfl 22 (.tmp 92) (.tmp 91) rfl h4 3 v' rfl rfl HV1.out 24 (#[.int .i64 v2, .int .i64 v3, .bool (v4 % 2 != 0), v]) (#[.int .i64 v2, .int .i64 v3, .bool (v4 % 2 != 0), v']) HF6.out sizeSI (show 3 < 4 by decide) rfl ?_; have HF7 := Lib.hid (setRow_heap w6 h4 _ (#[.int .i64 v2, .int .i64 v3, .bool (v4 % 2 != 0), v']) 24 (0, 0) HF6.out); have HB7 := Lib.hid (below_setRow HB6.out HWH.out (#[.int .i64 v2, .int .i64 v3, .bool (v4 % 2 != 0), v'])); have HG7 := Lib.hid ((setRow_other w6 h4 w.heap.size (#[.int .i64 v2, .int .i64 v3, .bool (v4 % 2 != 0), v']) HNE.out).trans HG6.out); have HO7 := Lib.hid (owns_other (w' := w6.setRow h4 (#[.int .i64 v2, .int .i64 v3, .bool (v4 % 2 != 0), v'])) HO3.out (fun b hb => setRow_other w6 h4 b _ (by have := HH4.out; omega))); have HZ7 := Lib.hid (show w5.heap.size ≤ (w6.setRow h4 (#[.int .i64 v2, .int .i64 v3, .bool (v4 % 2 != 0), v'])).heap.size by have := HZ6.out; simpa [World.setRow] using this); generalize World.setRow w6 _ _ = w7 at *))
            have HO8 := Lib.hid (show w7.ownsRow w5.heap.size 3 1 v' (acc ++ [(F + k) * 8 + j]).length ((acc ++ [(F + k) * 8 + (j : Int)]).map (Value.int .i64)) by
              rw [List.map_append, List.length_append, show (F + (k : Int)) * 8 + (j : Int) = (8 * (F + ((k : Int) + 5) - 5) + (j : Int)) by omega]; exact HO7.out)
            go_roundw
            case rel => exact ⟨j + 1, by omega, by go_num, v', trivial, HF7.out, by rw [HS.out, if_pos rfl]; exact HO8.out, HB7.out, HG7.out, HZ7.out⟩
            case measure => simp [intOf]; omega
        · have hj8 : j = 8 := by omega
          subst hj8
          go_wp2
          go_roundw
          case rel => exact ⟨k + 1, by omega, by go_num, v, trivial, HF.out, HO.out, HB.out, HG.out, HZ.out⟩
          case measure => simp [intOf]; omega
    · have hk' : k = N := by omega
      subst hk'
      rw [← HSAYS.out] at HO
      obtain ⟨A', k', rfl, hR⟩ := own_ints HO.out (by have := HLR.out.2; unfold maxLen; omega) HLR.out.1
      have HRL := Lib.hid hR
      have HAB := Lib.hid (show ∀ b o, A' = some ⟨b, o, none⟩ → w5.heap.size ≤ b from fun b o e => by subst e; exact (World.ownsRow.lt HO.out b rfl).1)
      clear hR HO
      have HNA := Lib.hid (show ∀ b o, A' = some ⟨b, o, none⟩ → b ≠ w.heap.size from fun b o e => by have := HAB.out b o e; have := HWH.out; have := HH4.out; omega)
      have HF := Lib.hid (show wr.heap[h4]? = some (.cells ((Tm.mk v2 v3 (v4 % 2 != 0) L).cells A' L.length k') 24 (0, 0)) from HF.out)
      go_wp2_with (refine wpList_load_row rfl 24 (.tmp 4) rfl h4 rfl 24 ((Tm.mk v2 v3 (v4 % 2 != 0) L).cells A' L.length k') (0, 0) _ HF.out Tryd.underlying24 rfl sizeTim ?_)
      cases hok : okT (Tm.mk v2 v3 (v4 % 2 != 0) L)
      · refine (ref_no (Tm.mk v2 v3 (v4 % 2 != 0) L) A' L.length k' wr HRL.out hok).mono ?_
        rintro e w8 ⟨rfl, hB⟩
        have T0 := Lib.hid (HB.out.trans (hB.mono HB.out.size))
        have T1 := Lib.hid ((hB.block _ (lt_blk HG.out)).trans HG.out)
        clear hB HB HG
        have HB := T0
        have HG := T1
        clear T0 T1
        have HEQ := Lib.hid (HNO.out (by rw [HD.out]; exact hok))
        go_wp2_with (first | (refine wpList_store_row rfl 24 (.tmp 2) (.tmp 100) rfl w.heap.size t0c rfl rfl 24 t0c HG.out sizeTim rfl (t0.oneCell none 0 0) ?_; rw [setRow_same _ _ _ _ _ HG.out]))
        refine bodyPost_ret (v := .tuple #[.agg t0c, .int .i64 103]) (results_cell_slot (p := 2) (q := 3) Tryd.results12 _ _ w.heap.size _ t0c _ _ rfl HG.out Tryd.underlying24 rfl sizeTim) rfl (OutR.of none 0 (by rw [HEQ.out.1, HEQ.out.2]; rfl) (by rw [HEQ.out.2]; exact RowB.nil) HB.out)
      · refine (ref_yes (Tm.mk v2 v3 (v4 % 2 != 0) L) A' L.length k' wr HRL.out hok).mono ?_
        rintro e w8 ⟨g, cap, rfl, hO, hB⟩
        have HY := Lib.hid (hO.row8 (all_wf ((encT_len _).trans (Nat.add_comm _ _)) (encT_wf _ hok)))
        clear hO
        have T0 := Lib.hid (HB.out.trans (hB.mono HB.out.size))
        have T1 := Lib.hid ((hB.block _ (lt_blk HG.out)).trans HG.out)
        have T2 := Lib.hid ((hB.block _ (lt_blk HF.out)).trans HF.out)
        have T3 := Lib.hid (HRL.out.below hB)
        clear hB HB HG HF HRL
        have HB := T0
        have HG := T1
        have HF := T2
        have HRL := T3
        clear T0 T1 T2 T3
        go_wp2_with (fail)
        refine (same_any (some ⟨b, off, none⟩) (some ⟨g, 0, none⟩) (k + 5) c (5 + lenB L) cap xs (encT (Tm.mk v2 v3 (v4 % 2 != 0) L)) w8 (HR.out.below HB.out) HY.out).mono ?_
        rintro e w9 ⟨rfl, mm, rfl⟩
        have T0 := Lib.hid (below_drewN HB.out mm)
        have T1 := Lib.hid (show (w8.drewN mm).heap[w.heap.size]? = some (.cells t0c 24 (0, 0)) from HG.out)
        have T2 := Lib.hid (show (w8.drewN mm).heap[h4]? = some (.cells ((Tm.mk v2 v3 (v4 % 2 != 0) L).cells A' L.length k') 24 (0, 0)) from HF.out)
        have T3 := Lib.hid (HRL.out.drewN mm)
        clear HB HG HF HRL HY
        have HB := T0
        have HG := T1
        have HF := T2
        have HRL := T3
        clear T0 T1 T2 T3
        generalize w8.drewN mm = w9 at *
        cases hsm : sameB xs (encT (Tm.mk v2 v3 (v4 % 2 != 0) L))
        · have HEQ := Lib.hid (HBAD.out (by rw [HD.out]; exact hok) (by rw [HD.out, sameB_comm]; exact hsm))
          go_wp2_with (first | (refine wpList_store_row rfl 24 (.tmp 2) (.tmp 106) rfl w.heap.size t0c rfl rfl 24 t0c HG.out sizeTim rfl (t0.oneCell none 0 0) ?_; rw [setRow_same _ _ _ _ _ HG.out]))
          refine bodyPost_ret (v := .tuple #[.agg t0c, .int .i64 102]) (results_cell_slot (p := 2) (q := 3) Tryd.results12 _ _ w.heap.size _ t0c _ _ rfl HG.out Tryd.underlying24 rfl sizeTim) rfl (OutR.of none 0 (by rw [HEQ.out.1, HEQ.out.2]; rfl) (by rw [HEQ.out.2]; exact RowB.nil) HB.out)
        · have HEQ := Lib.hid (HGOOD.out (by rw [HD.out]; exact hok) (by rw [HD.out, sameB_comm]; exact hsm))
          rw [HD.out] at HEQ
          go_wp2_with (first | (refine wpList_load_row rfl 24 (.tmp 4) rfl h4 rfl 24 ((Tm.mk v2 v3 (v4 % 2 != 0) L).cells A' L.length k') (0, 0) _ HF.out Tryd.underlying24 rfl sizeTim ?_) | (refine wpList_store_row rfl 24 (.tmp 2) (.tmp 107) rfl w.heap.size ((Tm.mk v2 v3 (v4 % 2 != 0) L).cells A' L.length k') rfl rfl 24 t0c HG.out sizeTim rfl (Tm.oneCell _ _ _ _) ?_))
          have HGz := Lib.hid (setRow_heap w9 w.heap.size t0c ((Tm.mk v2 v3 (v4 % 2 != 0) L).cells A' L.length k') 24 (0, 0) HG.out)
          have HRN := Lib.hid (HRL.out.other (w' := w9.setRow w.heap.size ((Tm.mk v2 v3 (v4 % 2 != 0) L).cells A' L.length k')) HNA.out (fun b hb => setRow_other w9 w.heap.size b _ hb))
          refine bodyPost_ret (v := .tuple #[.agg ((Tm.mk v2 v3 (v4 % 2 != 0) L).cells A' L.length k'), .int .i64 0]) (results_cell_slot (p := 2) (q := 3) Tryd.results12 _ _ w.heap.size _ ((Tm.mk v2 v3 (v4 % 2 != 0) L).cells A' L.length k') _ _ rfl HGz.out Tryd.underlying24 rfl sizeTim) rfl (OutR.of A' k' (by rw [HEQ.out.1, HEQ.out.2]; rfl) (by rw [HEQ.out.2]; exact HRN.out) (below_setRow HB.out (Nat.le_refl _) _))
theorem refread_all (A : Option Addr) (n c : Nat) (xs : List Int) (w : World) (h : RowB .u8 w A n xs) :
    Calls Tryd.prog 12 #[.slice A n c] w fun e w' => OutR xs n w e w' := by
  by_cases hb : frmT xs n = 0
  · exact refread_fit A n c xs w h hb
  · refine (refread_beg A n c xs w h hb).mono ?_
    rintro e w' ⟨rfl, hB⟩
    exact OutR.of none 0 (by rw [(rdT_beg hb).1, (rdT_beg hb).2]; rfl) (by rw [(rdT_beg hb).2]; exact RowB.nil) hB
end Go.Proofs.YtocghdjadojimaaDoor
