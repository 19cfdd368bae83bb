/-
  CONTRACTS of package aql: New, Clone, Of, All, Clear.
-/
import Derived.Test.YtlchfmjpachgfaaDoorAqlA
import Derived.Test.YtlchfmjpachgfaaDoorErrP
import Derived.StillTailTactics
import Derived.LoopTactic
namespace Go.Proofs.YtlchfmjpachgfaaDoor
open Go.ChangeShapes Go.WideShapes Go.ChangeAt Go.RowKit Go.Deep
set_option linter.unusedVariables false
set_option linter.unusedSimpArgs false

theorem vA_new (st wh : Int) (k : Nat) : vA (newA st wh) k = 0 := by
  unfold vA newA List.getD
  dsimp only
  rw [List.getElem?_replicate]
  split <;> rfl
theorem aq_zero (st wh : Int) (w : World) : IsAq (w.alloc (Obj.cells #[.int .i64 st, .int .i64 wh, .int .u64 0, .int .u64 0, .int .u64 0, .int .u64 0, .int .u64 0, .int .u64 0, .int .u64 0, .int .u64 0, .int .u64 0, .int .u64 0, .int .u64 0, .int .u64 0, .int .u64 0, .int .u64 0, .int .u64 0, .int .u64 0, .int .u64 0, .int .u64 0, .int .u64 0, .int .u64 0, .int .u64 0, .int .u64 0, .int .u64 0, .int .u64 0, .int .u64 0, .int .u64 0, .int .u64 0, .int .u64 0, .int .u64 0, .int .u64 0, .int .u64 0, .int .u64 0, .int .u64 0, .int .u64 0] 54 (0, 0))) w.heap.size (newA st wh) := by
  unfold IsAq At36
  rw [(MapKept.heap_alloc w (Obj.cells #[.int .i64 st, .int .i64 wh, .int .u64 0, .int .u64 0, .int .u64 0, .int .u64 0, .int .u64 0, .int .u64 0, .int .u64 0, .int .u64 0, .int .u64 0, .int .u64 0, .int .u64 0, .int .u64 0, .int .u64 0, .int .u64 0, .int .u64 0, .int .u64 0, .int .u64 0, .int .u64 0, .int .u64 0, .int .u64 0, .int .u64 0, .int .u64 0, .int .u64 0, .int .u64 0, .int .u64 0, .int .u64 0, .int .u64 0, .int .u64 0, .int .u64 0, .int .u64 0, .int .u64 0, .int .u64 0, .int .u64 0, .int .u64 0] 54 (0, 0))).1]
  exact congrArg (fun c => some (Obj.cells c _ _)) (c36_congr (st := st) (wh := wh) (x := fun _ => 0) (fun a _ => (vA_new st wh a).symm))
set_option maxRecDepth 100000 in
set_option maxHeartbeats 8000000 in
theorem new_ok (st wh : Int) (w : World) (h1 : airB st = true) (h2 : airB wh = true) :
    Calls Tryd.prog 7 #[.int .i64 st, .int .i64 wh] w fun r w' => r = .returned (.tuple #[.pointer (some ⟨w.heap.size, 0, none⟩), .nilIface]) ∧ IsAq w' w.heap.size (newA st wh) ∧ Below w.heap.size w w' := by
  have H1 := Shut.mk (fits_any st w)
  have H2 := Shut.mk (fits_any wh w)
  rw [h1] at H1
  rw [h2] at H2
  have HZ := Shut.mk (aq_zero st wh w)
  have HB := Shut.mk ((Below.refl w.heap.size w).alloc (Nat.le_refl _) (Obj.cells #[.int .i64 st, .int .i64 wh, .int .u64 0, .int .u64 0, .int .u64 0, .int .u64 0, .int .u64 0, .int .u64 0, .int .u64 0, .int .u64 0, .int .u64 0, .int .u64 0, .int .u64 0, .int .u64 0, .int .u64 0, .int .u64 0, .int .u64 0, .int .u64 0, .int .u64 0, .int .u64 0, .int .u64 0, .int .u64 0, .int .u64 0, .int .u64 0, .int .u64 0, .int .u64 0, .int .u64 0, .int .u64 0, .int .u64 0, .int .u64 0, .int .u64 0, .int .u64 0, .int .u64 0, .int .u64 0, .int .u64 0, .int .u64 0] 54 (0, 0)))
  clear h1 h2
  go_enter Tryd.func7, Tryd.ntmps7
  go_wp2_with (fail)
  refine H1.out.mono ?_
  rintro r w' ⟨rfl, rfl⟩
  go_wp2_with (fail)
  refine H2.out.mono ?_
  rintro r w' ⟨rfl, rfl⟩
  go_wp2_with (fail)
  go_ret2
  exact ⟨rfl, HZ.out, HB.out⟩
set_option maxRecDepth 100000 in
set_option maxHeartbeats 8000000 in
theorem new_no (st wh : Int) (w : World) (E : Nat → Addr) (he : w.cell? ⟨0, 0, none⟩ = some (errP (E 103))) (h : airB st = false ∨ airB wh = false) :
    Calls Tryd.prog 7 #[.int .i64 st, .int .i64 wh] w fun r w' => r = .returned (.tuple #[.pointer none, errP (E 103)]) ∧ Below w.heap.size w w' := by
  generalize E 103 = er at *
  have H1 := Shut.mk (fits_any st w)
  have H2 := Shut.mk (fits_any wh w)
  cases h1 : airB st with
  | false =>
    rw [h1] at H1
    clear h h1 H2
    go_enter Tryd.func7, Tryd.ntmps7
    go_wp2_with (fail)
    refine H1.out.mono ?_
    rintro r w' ⟨rfl, rfl⟩
    go_wp2_with (fail)
    go_quiet (fail)
    go_wp2_with (fail)
    go_ret2
    exact ⟨rfl, below_drewN (Below.refl _ _) _⟩
  | true =>
    rw [h1] at H1
    rw [h.resolve_left (by simp [h1])] at H2
    clear h h1
    go_enter Tryd.func7, Tryd.ntmps7
    go_wp2_with (fail)
    refine H1.out.mono ?_
    rintro r w' ⟨rfl, rfl⟩
    go_wp2_with (fail)
    refine H2.out.mono ?_
    rintro r w' ⟨rfl, rfl⟩
    go_wp2_with (fail)
    go_quiet (fail)
    go_wp2_with (fail)
    go_ret2
    exact ⟨rfl, below_drewN (Below.refl _ _) _⟩

/-! ### Clone -/
theorem size36 : (Tryd.prog.info? 54).map (·.size) = some 36 := by kernel_rfl
theorem sizeS : (Tryd.prog.info? 51).map (·.size) = some 2 := by kernel_rfl
theorem sizeU : (Tryd.prog.info? 52).map (·.size) = some 34 := by kernel_rfl
theorem one36 (st wh : Int) (x : Nat → Int) : (c36 st wh x).all (·.oneCell') = true := by unfold c36; simp [Value.oneCell']
set_option maxRecDepth 100000 in
set_option maxHeartbeats 8000000 in
theorem clone_any (g : Nat) (q : Aq) (w : World) (hg : IsAq w g q) :
    Calls Tryd.prog 9 #[.pointer (some ⟨g, 0, none⟩)] w fun r w' => r = .returned (.pointer (some ⟨w.heap.size, 0, none⟩)) ∧ IsAq w' w.heap.size q ∧ Below w.heap.size w w' := by
  obtain ⟨c, hc⟩ : ∃ c, c = c36 q.st q.wh (vA q) := ⟨_, rfl⟩
  have HS := Shut.mk (show c.size = 36 by rw [hc]; rfl)
  have H1 := Shut.mk (show c.all (·.oneCell') = true by rw [hc]; exact one36 _ _ _)
  have HG := Shut.mk (show w.heap[g]? = some (.cells c 54 (0, 0)) by rw [hc]; exact hg)
  have HB := Shut.mk ((Below.refl w.heap.size w).alloc (Nat.le_refl _) (Obj.cells c 54 (0, 0)))
  have HN := Shut.mk (MapKept.heap_alloc w (Obj.cells c 54 (0, 0))).1
  have HZ := Shut.mk (MapKept.heap_alloc w (Obj.cells #[.int .i64 0, .int .i64 0, .int .u64 0, .int .u64 0, .int .u64 0, .int .u64 0, .int .u64 0, .int .u64 0, .int .u64 0, .int .u64 0, .int .u64 0, .int .u64 0, .int .u64 0, .int .u64 0, .int .u64 0, .int .u64 0, .int .u64 0, .int .u64 0, .int .u64 0, .int .u64 0, .int .u64 0, .int .u64 0, .int .u64 0, .int .u64 0, .int .u64 0, .int .u64 0, .int .u64 0, .int .u64 0, .int .u64 0, .int .u64 0, .int .u64 0, .int .u64 0, .int .u64 0, .int .u64 0, .int .u64 0, .int .u64 0] 54 (0, 0))).1
  have HC := Shut.mk hc
  clear hg hc
  go_enter Tryd.func9, Tryd.ntmps9
  go_wp2_with (first
    | (refine wpList_load_row rfl 54 (.tmp 5) rfl g rfl 54 c (0, 0) _ HG.out Tryd.underlying54 rfl (by rw [HS.out]; exact size36) ?_)
    | (refine wpList_store_row rfl 54 (.tmp 3) (.tmp 6) rfl w.heap.size c rfl rfl 54 _ HZ.out (by rw [HS.out]; exact size36) (by rw [HS.out]; rfl) H1.out ?_; rw [World.setRow_alloc_new]))
  go_ret
  exact ⟨rfl, by unfold IsAq At36; rw [← HC.out]; exact HN.out, HB.out⟩
/-! ### Of -/
set_option maxRecDepth 100000 in
set_option maxHeartbeats 8000000 in
theorem of_any (g : Nat) (q : Aq) (n : Int) (w : World) (hg : IsAq w g q) (hi : InvA q) (hb : allA q ≤ 4611686018427387904) :
    Calls Tryd.prog 18 #[.pointer (some ⟨g, 0, none⟩), .int .i64 n] w fun r w' => r = .returned (.int .i64 (ofA q n)) ∧ Below w.heap.size w w' := by
  have HI := Shut.mk (is_any_a n w)
  by_cases hn : aidB n = true
  · obtain ⟨a, rfl⟩ := Int.eq_ofNat_of_zero_le (show 0 ≤ n by have := aidB_iff.1 hn; omega)
    have hn2 := aidB_iff.1 hn
    have ha : a < 17 := by omega
    have HG := Shut.mk (At36.range hg ha)
    have HV := Shut.mk (show 0 ≤ vA q a ∧ vA q a ≤ 9223372036854775807 by have h1 := vA_nonneg hi a; have h2 := vA_le hi a; omega)
    rw [hn] at HI
    rw [ofA_v hn]
    generalize vA q a = v at *
    have ha0 : (0 : Int) ≤ (a : Int) := by omega
    have ha1 : (a : Int) < 17 := by omega
    clear hg hi hb hn hn2
    go_enter Tryd.func18, Tryd.ntmps18
    go_wp2_with (fail)
    refine HI.out.mono ?_
    rintro r w' ⟨rfl, rfl⟩
    go_wp2_with (refine wpList_load_mid rfl 51 (.tmp 12) rfl g (2 + a * 2) rfl [.int .u64 0, .int .u64 v] _ HG.out Tryd.underlying51 rfl sizeS ?_)
    refine (numS_any v w HV.out.1 HV.out.2).mono ?_
    rintro r w2 ⟨rfl, hb⟩
    have HB := Shut.mk hb
    clear hb
    go_wp2_with (fail)
    go_ret
    exact ⟨rfl, HB.out⟩
  · have hn' : aidB n = false := by simpa using hn
    rw [hn'] at HI
    rw [ofA_no hn']
    clear hg hi hb hn hn'
    go_enter Tryd.func18, Tryd.ntmps18
    go_wp2_with (fail)
    refine HI.out.mono ?_
    rintro r w' ⟨rfl, rfl⟩
    go_wp2_with (fail)
    go_ret
    exact ⟨rfl, Below.refl _ _⟩
/-! ### All -/
theorem sizeA : (Tryd.prog.info? 52).map (·.size) = some 34 := by kernel_rfl
def row34 (x : Nat → Int) : List Value := [.int .u64 0, .int .u64 (x 0), .int .u64 0, .int .u64 (x 1), .int .u64 0, .int .u64 (x 2), .int .u64 0, .int .u64 (x 3), .int .u64 0, .int .u64 (x 4), .int .u64 0, .int .u64 (x 5), .int .u64 0, .int .u64 (x 6), .int .u64 0, .int .u64 (x 7), .int .u64 0, .int .u64 (x 8), .int .u64 0, .int .u64 (x 9), .int .u64 0, .int .u64 (x 10), .int .u64 0, .int .u64 (x 11), .int .u64 0, .int .u64 (x 12), .int .u64 0, .int .u64 (x 13), .int .u64 0, .int .u64 (x 14), .int .u64 0, .int .u64 (x 15), .int .u64 0, .int .u64 (x 16)]
theorem At36.under {w : World} {g : Nat} {st wh : Int} {x : Nat → Int} (hg : At36 w g st wh x) : w.rangeAt g 2 (row34 x) := fun j v hv => by
  rw [hg.cell]
  have e : c36 st wh x = ([Value.int .i64 st, Value.int .i64 wh] ++ row34 x).toArray := rfl
  rw [e, List.getElem?_toArray, List.getElem?_append_right (by simp)]
  simpa using hv
theorem idx17_0 (x : Nat → Int) (w : World) : (Instr.index 52 (.agg #[.int .u64 0, .int .u64 (x 0), .int .u64 0, .int .u64 (x 1), .int .u64 0, .int .u64 (x 2), .int .u64 0, .int .u64 (x 3), .int .u64 0, .int .u64 (x 4), .int .u64 0, .int .u64 (x 5), .int .u64 0, .int .u64 (x 6), .int .u64 0, .int .u64 (x 7), .int .u64 0, .int .u64 (x 8), .int .u64 0, .int .u64 (x 9), .int .u64 0, .int .u64 (x 10), .int .u64 0, .int .u64 (x 11), .int .u64 0, .int .u64 (x 12), .int .u64 0, .int .u64 (x 13), .int .u64 0, .int .u64 (x 14), .int .u64 0, .int .u64 (x 15), .int .u64 0, .int .u64 (x 16)]) (.int .i64 0)).run Tryd.prog w = .ok (.agg #[.int .u64 0, .int .u64 (x 0)]) w := by kernel_rfl
theorem idx17_1 (x : Nat → Int) (w : World) : (Instr.index 52 (.agg #[.int .u64 0, .int .u64 (x 0), .int .u64 0, .int .u64 (x 1), .int .u64 0, .int .u64 (x 2), .int .u64 0, .int .u64 (x 3), .int .u64 0, .int .u64 (x 4), .int .u64 0, .int .u64 (x 5), .int .u64 0, .int .u64 (x 6), .int .u64 0, .int .u64 (x 7), .int .u64 0, .int .u64 (x 8), .int .u64 0, .int .u64 (x 9), .int .u64 0, .int .u64 (x 10), .int .u64 0, .int .u64 (x 11), .int .u64 0, .int .u64 (x 12), .int .u64 0, .int .u64 (x 13), .int .u64 0, .int .u64 (x 14), .int .u64 0, .int .u64 (x 15), .int .u64 0, .int .u64 (x 16)]) (.int .i64 1)).run Tryd.prog w = .ok (.agg #[.int .u64 0, .int .u64 (x 1)]) w := by kernel_rfl
theorem idx17_2 (x : Nat → Int) (w : World) : (Instr.index 52 (.agg #[.int .u64 0, .int .u64 (x 0), .int .u64 0, .int .u64 (x 1), .int .u64 0, .int .u64 (x 2), .int .u64 0, .int .u64 (x 3), .int .u64 0, .int .u64 (x 4), .int .u64 0, .int .u64 (x 5), .int .u64 0, .int .u64 (x 6), .int .u64 0, .int .u64 (x 7), .int .u64 0, .int .u64 (x 8), .int .u64 0, .int .u64 (x 9), .int .u64 0, .int .u64 (x 10), .int .u64 0, .int .u64 (x 11), .int .u64 0, .int .u64 (x 12), .int .u64 0, .int .u64 (x 13), .int .u64 0, .int .u64 (x 14), .int .u64 0, .int .u64 (x 15), .int .u64 0, .int .u64 (x 16)]) (.int .i64 2)).run Tryd.prog w = .ok (.agg #[.int .u64 0, .int .u64 (x 2)]) w := by kernel_rfl
theorem idx17_3 (x : Nat → Int) (w : World) : (Instr.index 52 (.agg #[.int .u64 0, .int .u64 (x 0), .int .u64 0, .int .u64 (x 1), .int .u64 0, .int .u64 (x 2), .int .u64 0, .int .u64 (x 3), .int .u64 0, .int .u64 (x 4), .int .u64 0, .int .u64 (x 5), .int .u64 0, .int .u64 (x 6), .int .u64 0, .int .u64 (x 7), .int .u64 0, .int .u64 (x 8), .int .u64 0, .int .u64 (x 9), .int .u64 0, .int .u64 (x 10), .int .u64 0, .int .u64 (x 11), .int .u64 0, .int .u64 (x 12), .int .u64 0, .int .u64 (x 13), .int .u64 0, .int .u64 (x 14), .int .u64 0, .int .u64 (x 15), .int .u64 0, .int .u64 (x 16)]) (.int .i64 3)).run Tryd.prog w = .ok (.agg #[.int .u64 0, .int .u64 (x 3)]) w := by kernel_rfl
theorem idx17_4 (x : Nat → Int) (w : World) : (Instr.index 52 (.agg #[.int .u64 0, .int .u64 (x 0), .int .u64 0, .int .u64 (x 1), .int .u64 0, .int .u64 (x 2), .int .u64 0, .int .u64 (x 3), .int .u64 0, .int .u64 (x 4), .int .u64 0, .int .u64 (x 5), .int .u64 0, .int .u64 (x 6), .int .u64 0, .int .u64 (x 7), .int .u64 0, .int .u64 (x 8), .int .u64 0, .int .u64 (x 9), .int .u64 0, .int .u64 (x 10), .int .u64 0, .int .u64 (x 11), .int .u64 0, .int .u64 (x 12), .int .u64 0, .int .u64 (x 13), .int .u64 0, .int .u64 (x 14), .int .u64 0, .int .u64 (x 15), .int .u64 0, .int .u64 (x 16)]) (.int .i64 4)).run Tryd.prog w = .ok (.agg #[.int .u64 0, .int .u64 (x 4)]) w := by kernel_rfl
theorem idx17_5 (x : Nat → Int) (w : World) : (Instr.index 52 (.agg #[.int .u64 0, .int .u64 (x 0), .int .u64 0, .int .u64 (x 1), .int .u64 0, .int .u64 (x 2), .int .u64 0, .int .u64 (x 3), .int .u64 0, .int .u64 (x 4), .int .u64 0, .int .u64 (x 5), .int .u64 0, .int .u64 (x 6), .int .u64 0, .int .u64 (x 7), .int .u64 0, .int .u64 (x 8), .int .u64 0, .int .u64 (x 9), .int .u64 0, .int .u64 (x 10), .int .u64 0, .int .u64 (x 11), .int .u64 0, .int .u64 (x 12), .int .u64 0, .int .u64 (x 13), .int .u64 0, .int .u64 (x 14), .int .u64 0, .int .u64 (x 15), .int .u64 0, .int .u64 (x 16)]) (.int .i64 5)).run Tryd.prog w = .ok (.agg #[.int .u64 0, .int .u64 (x 5)]) w := by kernel_rfl
theorem idx17_6 (x : Nat → Int) (w : World) : (Instr.index 52 (.agg #[.int .u64 0, .int .u64 (x 0), .int .u64 0, .int .u64 (x 1), .int .u64 0, .int .u64 (x 2), .int .u64 0, .int .u64 (x 3), .int .u64 0, .int .u64 (x 4), .int .u64 0, .int .u64 (x 5), .int .u64 0, .int .u64 (x 6), .int .u64 0, .int .u64 (x 7), .int .u64 0, .int .u64 (x 8), .int .u64 0, .int .u64 (x 9), .int .u64 0, .int .u64 (x 10), .int .u64 0, .int .u64 (x 11), .int .u64 0, .int .u64 (x 12), .int .u64 0, .int .u64 (x 13), .int .u64 0, .int .u64 (x 14), .int .u64 0, .int .u64 (x 15), .int .u64 0, .int .u64 (x 16)]) (.int .i64 6)).run Tryd.prog w = .ok (.agg #[.int .u64 0, .int .u64 (x 6)]) w := by kernel_rfl
theorem idx17_7 (x : Nat → Int) (w : World) : (Instr.index 52 (.agg #[.int .u64 0, .int .u64 (x 0), .int .u64 0, .int .u64 (x 1), .int .u64 0, .int .u64 (x 2), .int .u64 0, .int .u64 (x 3), .int .u64 0, .int .u64 (x 4), .int .u64 0, .int .u64 (x 5), .int .u64 0, .int .u64 (x 6), .int .u64 0, .int .u64 (x 7), .int .u64 0, .int .u64 (x 8), .int .u64 0, .int .u64 (x 9), .int .u64 0, .int .u64 (x 10), .int .u64 0, .int .u64 (x 11), .int .u64 0, .int .u64 (x 12), .int .u64 0, .int .u64 (x 13), .int .u64 0, .int .u64 (x 14), .int .u64 0, .int .u64 (x 15), .int .u64 0, .int .u64 (x 16)]) (.int .i64 7)).run Tryd.prog w = .ok (.agg #[.int .u64 0, .int .u64 (x 7)]) w := by kernel_rfl
theorem idx17_8 (x : Nat → Int) (w : World) : (Instr.index 52 (.agg #[.int .u64 0, .int .u64 (x 0), .int .u64 0, .int .u64 (x 1), .int .u64 0, .int .u64 (x 2), .int .u64 0, .int .u64 (x 3), .int .u64 0, .int .u64 (x 4), .int .u64 0, .int .u64 (x 5), .int .u64 0, .int .u64 (x 6), .int .u64 0, .int .u64 (x 7), .int .u64 0, .int .u64 (x 8), .int .u64 0, .int .u64 (x 9), .int .u64 0, .int .u64 (x 10), .int .u64 0, .int .u64 (x 11), .int .u64 0, .int .u64 (x 12), .int .u64 0, .int .u64 (x 13), .int .u64 0, .int .u64 (x 14), .int .u64 0, .int .u64 (x 15), .int .u64 0, .int .u64 (x 16)]) (.int .i64 8)).run Tryd.prog w = .ok (.agg #[.int .u64 0, .int .u64 (x 8)]) w := by kernel_rfl
theorem idx17_9 (x : Nat → Int) (w : World) : (Instr.index 52 (.agg #[.int .u64 0, .int .u64 (x 0), .int .u64 0, .int .u64 (x 1), .int .u64 0, .int .u64 (x 2), .int .u64 0, .int .u64 (x 3), .int .u64 0, .int .u64 (x 4), .int .u64 0, .int .u64 (x 5), .int .u64 0, .int .u64 (x 6), .int .u64 0, .int .u64 (x 7), .int .u64 0, .int .u64 (x 8), .int .u64 0, .int .u64 (x 9), .int .u64 0, .int .u64 (x 10), .int .u64 0, .int .u64 (x 11), .int .u64 0, .int .u64 (x 12), .int .u64 0, .int .u64 (x 13), .int .u64 0, .int .u64 (x 14), .int .u64 0, .int .u64 (x 15), .int .u64 0, .int .u64 (x 16)]) (.int .i64 9)).run Tryd.prog w = .ok (.agg #[.int .u64 0, .int .u64 (x 9)]) w := by kernel_rfl
theorem idx17_10 (x : Nat → Int) (w : World) : (Instr.index 52 (.agg #[.int .u64 0, .int .u64 (x 0), .int .u64 0, .int .u64 (x 1), .int .u64 0, .int .u64 (x 2), .int .u64 0, .int .u64 (x 3), .int .u64 0, .int .u64 (x 4), .int .u64 0, .int .u64 (x 5), .int .u64 0, .int .u64 (x 6), .int .u64 0, .int .u64 (x 7), .int .u64 0, .int .u64 (x 8), .int .u64 0, .int .u64 (x 9), .int .u64 0, .int .u64 (x 10), .int .u64 0, .int .u64 (x 11), .int .u64 0, .int .u64 (x 12), .int .u64 0, .int .u64 (x 13), .int .u64 0, .int .u64 (x 14), .int .u64 0, .int .u64 (x 15), .int .u64 0, .int .u64 (x 16)]) (.int .i64 10)).run Tryd.prog w = .ok (.agg #[.int .u64 0, .int .u64 (x 10)]) w := by kernel_rfl
theorem idx17_11 (x : Nat → Int) (w : World) : (Instr.index 52 (.agg #[.int .u64 0, .int .u64 (x 0), .int .u64 0, .int .u64 (x 1), .int .u64 0, .int .u64 (x 2), .int .u64 0, .int .u64 (x 3), .int .u64 0, .int .u64 (x 4), .int .u64 0, .int .u64 (x 5), .int .u64 0, .int .u64 (x 6), .int .u64 0, .int .u64 (x 7), .int .u64 0, .int .u64 (x 8), .int .u64 0, .int .u64 (x 9), .int .u64 0, .int .u64 (x 10), .int .u64 0, .int .u64 (x 11), .int .u64 0, .int .u64 (x 12), .int .u64 0, .int .u64 (x 13), .int .u64 0, .int .u64 (x 14), .int .u64 0, .int .u64 (x 15), .int .u64 0, .int .u64 (x 16)]) (.int .i64 11)).run Tryd.prog w = .ok (.agg #[.int .u64 0, .int .u64 (x 11)]) w := by kernel_rfl
theorem idx17_12 (x : Nat → Int) (w : World) : (Instr.index 52 (.agg #[.int .u64 0, .int .u64 (x 0), .int .u64 0, .int .u64 (x 1), .int .u64 0, .int .u64 (x 2), .int .u64 0, .int .u64 (x 3), .int .u64 0, .int .u64 (x 4), .int .u64 0, .int .u64 (x 5), .int .u64 0, .int .u64 (x 6), .int .u64 0, .int .u64 (x 7), .int .u64 0, .int .u64 (x 8), .int .u64 0, .int .u64 (x 9), .int .u64 0, .int .u64 (x 10), .int .u64 0, .int .u64 (x 11), .int .u64 0, .int .u64 (x 12), .int .u64 0, .int .u64 (x 13), .int .u64 0, .int .u64 (x 14), .int .u64 0, .int .u64 (x 15), .int .u64 0, .int .u64 (x 16)]) (.int .i64 12)).run Tryd.prog w = .ok (.agg #[.int .u64 0, .int .u64 (x 12)]) w := by kernel_rfl
theorem idx17_13 (x : Nat → Int) (w : World) : (Instr.index 52 (.agg #[.int .u64 0, .int .u64 (x 0), .int .u64 0, .int .u64 (x 1), .int .u64 0, .int .u64 (x 2), .int .u64 0, .int .u64 (x 3), .int .u64 0, .int .u64 (x 4), .int .u64 0, .int .u64 (x 5), .int .u64 0, .int .u64 (x 6), .int .u64 0, .int .u64 (x 7), .int .u64 0, .int .u64 (x 8), .int .u64 0, .int .u64 (x 9), .int .u64 0, .int .u64 (x 10), .int .u64 0, .int .u64 (x 11), .int .u64 0, .int .u64 (x 12), .int .u64 0, .int .u64 (x 13), .int .u64 0, .int .u64 (x 14), .int .u64 0, .int .u64 (x 15), .int .u64 0, .int .u64 (x 16)]) (.int .i64 13)).run Tryd.prog w = .ok (.agg #[.int .u64 0, .int .u64 (x 13)]) w := by kernel_rfl
theorem idx17_14 (x : Nat → Int) (w : World) : (Instr.index 52 (.agg #[.int .u64 0, .int .u64 (x 0), .int .u64 0, .int .u64 (x 1), .int .u64 0, .int .u64 (x 2), .int .u64 0, .int .u64 (x 3), .int .u64 0, .int .u64 (x 4), .int .u64 0, .int .u64 (x 5), .int .u64 0, .int .u64 (x 6), .int .u64 0, .int .u64 (x 7), .int .u64 0, .int .u64 (x 8), .int .u64 0, .int .u64 (x 9), .int .u64 0, .int .u64 (x 10), .int .u64 0, .int .u64 (x 11), .int .u64 0, .int .u64 (x 12), .int .u64 0, .int .u64 (x 13), .int .u64 0, .int .u64 (x 14), .int .u64 0, .int .u64 (x 15), .int .u64 0, .int .u64 (x 16)]) (.int .i64 14)).run Tryd.prog w = .ok (.agg #[.int .u64 0, .int .u64 (x 14)]) w := by kernel_rfl
theorem idx17_15 (x : Nat → Int) (w : World) : (Instr.index 52 (.agg #[.int .u64 0, .int .u64 (x 0), .int .u64 0, .int .u64 (x 1), .int .u64 0, .int .u64 (x 2), .int .u64 0, .int .u64 (x 3), .int .u64 0, .int .u64 (x 4), .int .u64 0, .int .u64 (x 5), .int .u64 0, .int .u64 (x 6), .int .u64 0, .int .u64 (x 7), .int .u64 0, .int .u64 (x 8), .int .u64 0, .int .u64 (x 9), .int .u64 0, .int .u64 (x 10), .int .u64 0, .int .u64 (x 11), .int .u64 0, .int .u64 (x 12), .int .u64 0, .int .u64 (x 13), .int .u64 0, .int .u64 (x 14), .int .u64 0, .int .u64 (x 15), .int .u64 0, .int .u64 (x 16)]) (.int .i64 15)).run Tryd.prog w = .ok (.agg #[.int .u64 0, .int .u64 (x 15)]) w := by kernel_rfl
theorem idx17_16 (x : Nat → Int) (w : World) : (Instr.index 52 (.agg #[.int .u64 0, .int .u64 (x 0), .int .u64 0, .int .u64 (x 1), .int .u64 0, .int .u64 (x 2), .int .u64 0, .int .u64 (x 3), .int .u64 0, .int .u64 (x 4), .int .u64 0, .int .u64 (x 5), .int .u64 0, .int .u64 (x 6), .int .u64 0, .int .u64 (x 7), .int .u64 0, .int .u64 (x 8), .int .u64 0, .int .u64 (x 9), .int .u64 0, .int .u64 (x 10), .int .u64 0, .int .u64 (x 11), .int .u64 0, .int .u64 (x 12), .int .u64 0, .int .u64 (x 13), .int .u64 0, .int .u64 (x 14), .int .u64 0, .int .u64 (x 15), .int .u64 0, .int .u64 (x 16)]) (.int .i64 16)).run Tryd.prog w = .ok (.agg #[.int .u64 0, .int .u64 (x 16)]) w := by kernel_rfl
theorem idx17 (x : Nat → Int) (a : Nat) (ha : a < 17) : ∀ w' : World, (Instr.index 52 (.agg (row34 x).toArray) (.int .i64 (a : Int))).run Tryd.prog w' = .ok (.agg #[.int .u64 0, .int .u64 (x a)]) w' := fun w' => by
  match a, ha with
  | 0, _ => exact idx17_0 x w'
  | 1, _ => exact idx17_1 x w'
  | 2, _ => exact idx17_2 x w'
  | 3, _ => exact idx17_3 x w'
  | 4, _ => exact idx17_4 x w'
  | 5, _ => exact idx17_5 x w'
  | 6, _ => exact idx17_6 x w'
  | 7, _ => exact idx17_7 x w'
  | 8, _ => exact idx17_8 x w'
  | 9, _ => exact idx17_9 x w'
  | 10, _ => exact idx17_10 x w'
  | 11, _ => exact idx17_11 x w'
  | 12, _ => exact idx17_12 x w'
  | 13, _ => exact idx17_13 x w'
  | 14, _ => exact idx17_14 x w'
  | 15, _ => exact idx17_15 x w'
  | 16, _ => exact idx17_16 x w'
  | n + 17, h => exact absurd h (by omega)
set_option maxRecDepth 100000 in
set_option maxHeartbeats 8000000 in
theorem all_any (g : Nat) (q : Aq) (w : World) (hg : IsAq w g q) (hi : InvA q) (hb : allA q ≤ 4611686018427387904) :
    Calls Tryd.prog 10 #[.pointer (some ⟨g, 0, none⟩)] w fun r w' => r = .returned (.int .i64 (allA q)) ∧ Below w.heap.size w w' := by
  have HI := Shut.mk hi
  have HBD := Shut.mk hb
  have HB0 := Shut.mk ((Below.refl w.heap.size w).alloc (Nat.le_refl _) (Obj.cells #[.int .u64 0, .int .u64 0] 51 (0, 0)))
  have HU1 := Shut.mk (show (w.alloc (Obj.cells #[.int .u64 0, .int .u64 0] 51 (0, 0))).rangeAt g 2 (row34 (vA q)) from ((hg.below HB0.out)).under)
  have HX := Shut.mk (idx17 (vA q))
  obtain ⟨gs, hgs⟩ : ∃ gs, gs = w.heap.size := ⟨_, rfl⟩
  have HGS := Shut.mk hgs
  have HP := Shut.mk (show (w.alloc (Obj.cells #[.int .u64 0, .int .u64 0] 51 (0, 0))).heap[gs]? = some (Obj.cells #[.int .u64 0, .int .u64 (pA q 0)] 51 (0, 0)) ∧ Below w.heap.size w (w.alloc (Obj.cells #[.int .u64 0, .int .u64 0] 51 (0, 0))) from ⟨by rw [hgs]; exact (MapKept.heap_alloc w (Obj.cells #[.int .u64 0, .int .u64 0] 51 (0, 0))).1, HB0.out⟩)
  clear hg hi hb hgs HB0
  go_enter Tryd.func10, Tryd.ntmps10
  go_wp2_with (refine wpList_load_mid rfl 52 (.tmp 8) rfl g 2 rfl (row34 (vA q)) _ HU1.out Tryd.underlying52 rfl sizeA ?_)
  rw [← HGS.out]
  clear HU1
  generalize World.alloc w _ = w1 at *
  go_loopw [5, 10] (fun s5 s10 wr => ∃ k : Nat, k ≤ 17 ∧ s10 = .int .i64 (k : Int) ∧ Shut (wr.heap[gs]? = some (Obj.cells #[.int .u64 0, .int .u64 (pA q k)] 51 (0, 0)) ∧ Below w.heap.size w wr)) (fun _ s10 _ => 17 - (intOf s10).toNat)
  case atStart => exact ⟨0, by decide, rfl, HP⟩
  case round =>
    clear HP
    obtain ⟨k, hk, rfl, HQ⟩ := hrel
    by_cases hk17 : k = 17
    · subst hk17
      have HV := Shut.mk (show 0 ≤ pA q 17 ∧ pA q 17 ≤ 9223372036854775807 by have h1 := pA_nonneg HI.out 17; have h2 := pA_le HI.out 17; have h3 := HBD.out; omega)
      have H17 := Shut.mk (pA_17 HI.out)
      generalize pA q 17 = v at *
      clear hk
      go_wp2_with (refine wpList_load_row rfl 51 (.tmp 3) rfl gs rfl 51 #[.int .u64 0, .int .u64 v] (0, 0) _ HQ.out.1 Tryd.underlying51 rfl sizeS ?_)
      refine (numS_any v wr HV.out.1 HV.out.2).mono ?_
      rintro r w2 ⟨rfl, hb⟩
      have HB := Shut.mk (HQ.out.2.trans (hb.mono HQ.out.2.size))
      clear hb
      go_wp2_with (fail)
      go_ret
      exact ⟨ret_int H17.out, HB.out⟩
    have hlt : (k : Int) < 17 := by omega
    have HK := Shut.mk (show k < 17 by omega)
    have HXK := HX.out k HK.out
    have HV := Shut.mk (show 0 ≤ pA q k ∧ 0 ≤ vA q k ∧ pA q k + vA q k < 18446744073709551616 by have h1 := pA_nonneg HI.out k; have h2 := pA_le HI.out k; have h3 := HBD.out; have h4 := vA_nonneg HI.out k; have h5 := vA_le HI.out k; omega)
    have HN := Shut.mk (pA_next HI.out HK.out)
    generalize vA q k = v at HXK HV HN
    generalize pA q k = p at *
    have HA := Shut.mk (MapKept.heap_alloc wr (Obj.cells #[.int .u64 0, .int .u64 0] 51 (0, 0))).1
    have HA2 := Shut.mk (MapKept.heap_alloc wr (Obj.cells #[.int .u64 0, .int .u64 (v)] 51 (0, 0))).1
    have HS2 := Shut.mk (show (wr.alloc (Obj.cells #[.int .u64 0, .int .u64 (v)] 51 (0, 0))).heap[gs]? = some (Obj.cells #[.int .u64 0, .int .u64 (p)] 51 (0, 0)) from (((Below.refl wr.heap.size wr).alloc (Nat.le_refl _) (Obj.cells #[.int .u64 0, .int .u64 (v)] 51 (0, 0))).block gs (lt_blk HQ.out.1)).trans HQ.out.1)
    have HB2 := Shut.mk (HQ.out.2.alloc HQ.out.2.size (Obj.cells #[.int .u64 0, .int .u64 (v)] 51 (0, 0)))
    clear hk hk17 HQ
    go_wp2_with (first
      | (refine wpList_store_row rfl 51 (.tmp 5) (.tmp 12) rfl wr.heap.size #[.int .u64 0, .int .u64 v] rfl rfl 51 _ HA.out sizeS rfl (by simp [Value.oneCell']) ?_; rw [World.setRow_alloc_new])
      | (refine wpList_load_row rfl 51 (.tmp 3) rfl gs rfl 51 #[.int .u64 0, .int .u64 p] (0, 0) _ HS2.out Tryd.underlying51 rfl sizeS ?_)
      | (refine wpList_load_row rfl 51 (.tmp 5) rfl wr.heap.size rfl 51 #[.int .u64 0, .int .u64 v] (0, 0) _ HA2.out Tryd.underlying51 rfl sizeS ?_))
    refine (plus_any p v _ HV.out.1 HV.out.2.1 HV.out.2.2).mono ?_
    rintro r w3 ⟨rfl, hb⟩
    have HS3 := Shut.mk ((hb.block gs (lt_blk HS2.out)).trans HS2.out)
    have HB3 := Shut.mk (HB2.out.trans (hb.mono HB2.out.size))
    have HS4 := Shut.mk (setRow_heap w3 gs _ #[.int .u64 0, .int .u64 (p + v)] _ (0, 0) HS3.out)
    have HB4 := Shut.mk (below_setRow HB3.out (Nat.le_of_eq HGS.out.symm) #[.int .u64 0, .int .u64 (p + v)])
    clear hb HB3 HA HA2 HS2 HB2
    go_wp2_with (refine wpList_store_row rfl 51 (.tmp 3) (.tmp 15) rfl gs #[.int .u64 0, .int .u64 (p + v)] rfl rfl 51 _ HS3.out sizeS rfl (by simp [Value.oneCell']) ?_)
    go_roundw
    case rel => exact ⟨k + 1, by have := HK.out; omega, by go_num, Shut.mk ⟨by rw [HN.out]; exact HS4.out, HB4.out⟩⟩
    case measure => have := HK.out; simp [intOf]; omega
/-! ### Clear -/
theorem ints_in {n : Int} (hn : aidB n = true) : ∃ a : Nat, n = (a : Int) ∧ a < 17 ∧ 1 ≤ a := by
  have := aidB_iff.1 hn
  obtain ⟨a, rfl⟩ := Int.eq_ofNat_of_zero_le (show 0 ≤ n by omega)
  exact ⟨a, rfl, by omega, by omega⟩
set_option maxRecDepth 100000 in
set_option maxHeartbeats 8000000 in
theorem clear_any (g : Nat) (q : Aq) (n : Int) (w : World) (hg : IsAq w g q) (hi : InvA q) :
    Calls Tryd.prog 15 #[.pointer (some ⟨g, 0, none⟩), .int .i64 n] w fun r w' => r = .returned (.tuple #[]) ∧ IsAq w' g (clearA q n) ∧ Only (· = g) w w' := by
  have HI := Shut.mk (is_any_a n w)
  by_cases hn : aidB n = true
  · have HQ := Shut.mk (show clearA q n = putA q n 0 by unfold clearA; rw [if_pos hn])
    rw [HQ.out]
    rw [hn] at HI
    obtain ⟨a, rfl, ha, -⟩ := ints_in hn
    obtain ⟨pre, post, hp, hc, hset⟩ := c36_cut q.st q.wh (vA q) ha
    have HG := Shut.mk (show w.heap[g]? = some (.cells (pre ++ s2 (vA q a) ++ post).toArray 54 (0, 0)) by rw [← hc]; exact hg)
    have HPL := Shut.mk hp
    have HE := Shut.mk (show IsAq (w.setRow g (pre ++ s2 0 ++ post).toArray) g (putA q a 0) from IsAq.put (by unfold At36; rw [← hset]; exact setRow_heap w g _ _ _ (0, 0) HG.out) hi ha)
    have HO := Shut.mk (only_setRow w g (pre ++ s2 0 ++ post).toArray)
    generalize vA q a = x at *
    have ha0 : (0 : Int) ≤ (a : Int) := by omega
    have ha1 : (a : Int) < 17 := by omega
    clear hg hi hn hp hc hset HQ
    go_enter Tryd.func15, Tryd.ntmps15
    go_wp2_with (fail)
    refine HI.out.mono ?_
    rintro r w' ⟨rfl, rfl⟩
    go_wp2_with (refine wpList_store_part rfl 51 (.tmp 11) (.tmp 8) rfl g (2 + a * 2) (.agg #[.int .u64 0, .int .u64 (0)]) rfl rfl 54 pre (s2 x) (s2 (0)) post HG.out HPL.out rfl rfl sizeS (by simp [s2, Value.oneCell']) ?_)
    refine bodyPost_end (results_none (fn := Tryd.f15) rfl _ _ _) rfl ?_
    exact ⟨rfl, by simpa only [List.append_assoc] using HE.out, by simpa only [List.append_assoc] using HO.out⟩
  · have hn' : aidB n = false := by simpa using hn
    have HQ := Shut.mk (show IsAq w g (clearA q n) by unfold clearA; rw [if_neg hn]; exact hg)
    rw [hn'] at HI
    clear hg hi hn hn'
    go_enter Tryd.func15, Tryd.ntmps15
    go_wp2_with (fail)
    refine HI.out.mono ?_
    rintro r w' ⟨rfl, rfl⟩
    go_wp2_with (fail)
    refine bodyPost_end (results_none (fn := Tryd.f15) rfl _ _ _) rfl ?_
    exact ⟨rfl, HQ.out, Only.refl _ _⟩
end Go.Proofs.YtlchfmjpachgfaaDoor
