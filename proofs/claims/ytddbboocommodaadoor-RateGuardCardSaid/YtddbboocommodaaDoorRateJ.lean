/-
  CONTRACTS of SameRate1, SameRates; of the laws' first.
-/
import Derived.Test.YtddbboocommodaaDoorRateD
import Derived.Test.YtddbboocommodaaDoorRateH
namespace Go.Proofs.YtddbboocommodaaDoor
open Go.ChangeShapes Go.WideShapes Go.ChangeAt Go.RowKit
set_option linter.unusedVariables false
set_option linter.unusedSimpArgs false

theorem load_rate {w : World} {b o : Nat} {r : Rt} (h : w.rangeAt b o r.cells) : (loadVar 27 ⟨b, o, none⟩).run Tryd.prog w = .ok r.val w := by
  rw [run_loadVar_mid w b o 27 r.cells _ h Tryd.underlying27 rfl sizeRate]
  rfl
theorem rt_cell0 {w w' : World} {r : Rt} (hb : Below (w.heap.size + 1) (w.alloc (.cells r.arr 27)) w') (i : Nat) : w'.cell? ⟨w.heap.size, i, none⟩ = r.arr[i]? := by
  rw [hb.cell (p := ⟨w.heap.size, i, none⟩) (Nat.lt_succ_self _)]
  exact rt_cell (heap_alloc_last w _) i
set_option maxRecDepth 100000 in
set_option maxHeartbeats 8000000 in
theorem same1_any (a b : Rt) (w : World) :
    Calls Tryd.prog 20 #[a.val, b.val] w fun e w' => e = .returned (.bool (sameR a b)) ∧ Below w.heap.size w w' := by
  have HB := Lib.hid (((Below.refl w.heap.size w).alloc (Nat.le_refl _) (.cells a.arr 27)).alloc (by simp) (.cells b.arr 27))
  obtain ⟨am, ac, av, aw, ag⟩ := a
  obtain ⟨bm, bc, bs, bw, bg⟩ := b
  cases e1 : (am == bm)
  · have HE := Lib.hid (show false = sameR ⟨am, ac, av, aw, ag⟩ ⟨bm, bc, bs, bw, bg⟩ by unfold sameR; dsimp only; rw [e1]; simp)
    go_enter Tryd.func20, Tryd.ntmps20
    go_wp2
    go_ret
    exact ⟨ret_bool HE.out, HB.out⟩
  cases e2 : (ac == bc)
  · have HE := Lib.hid (show false = sameR ⟨am, ac, av, aw, ag⟩ ⟨bm, bc, bs, bw, bg⟩ by unfold sameR; dsimp only; rw [e1, e2]; simp)
    go_enter Tryd.func20, Tryd.ntmps20
    go_wp2
    go_ret
    exact ⟨ret_bool HE.out, HB.out⟩
  cases e3 : (av == bs)
  · have HE := Lib.hid (show false = sameR ⟨am, ac, av, aw, ag⟩ ⟨bm, bc, bs, bw, bg⟩ by unfold sameR; dsimp only; rw [e1, e2, e3]; simp)
    go_enter Tryd.func20, Tryd.ntmps20
    go_wp2
    go_ret
    exact ⟨ret_bool HE.out, HB.out⟩
  cases e4 : (aw == bw)
  · have HE := Lib.hid (show false = sameR ⟨am, ac, av, aw, ag⟩ ⟨bm, bc, bs, bw, bg⟩ by unfold sameR; dsimp only; rw [e1, e2, e3, e4]; simp)
    go_enter Tryd.func20, Tryd.ntmps20
    go_wp2
    go_ret
    exact ⟨ret_bool HE.out, HB.out⟩
  have HE := Lib.hid (show (ag == bg) = sameR ⟨am, ac, av, aw, ag⟩ ⟨bm, bc, bs, bw, bg⟩ by unfold sameR; dsimp only; rw [e1, e2, e3, e4]; simp)
  go_enter Tryd.func20, Tryd.ntmps20
  go_wp2
  go_ret
  exact ⟨ret_bool HE.out, HB.out⟩
set_option maxRecDepth 100000 in
set_option maxHeartbeats 8000000 in
theorem sames_any (A A' : Option Addr) (n c c' : Nat) (l : List Rt) (w : World) (h : RowR w A n l) (h' : RowR w A' n l) :
    Calls Tryd.prog 18 #[.slice A n c, .slice A' n c'] w fun e w' => e = .returned (.bool true) ∧ Below w.heap.size w w' := by
  have HR := Lib.hid h
  have HR' := Lib.hid h'
  have hle := h.le
  unfold maxLen at hle
  clear h h'
  go_enter Tryd.func18, Tryd.ntmps18
  go_wp2
  go_loopw [5] (fun i wr => ∃ k : Nat, k ≤ n ∧ i = .int .i64 k ∧ Below w.heap.size w wr) (fun i _ => n - (intOf i).toNat)
  case atStart => exact ⟨0, by omega, rfl, Below.refl _ _⟩
  case round =>
    obtain ⟨k, hk, rfl, hbel⟩ := hrel
    have HB := Lib.hid hbel
    clear hbel
    by_cases hlt : k < n
    · obtain ⟨b1, o1, rfl, hc1⟩ := (HR.out.below HB.out).el k hlt
      obtain ⟨b2, o2, rfl, hc2⟩ := (HR'.out.below HB.out).el k hlt
      have HC1 := Lib.hid (fun d os => range_below (B := wr.heap.size) hc1 (below_regrown wr d os))
      have HC2 := Lib.hid (fun d os => range_below (B := wr.heap.size) hc2 (below_regrown wr d os))
      clear hc1 hc2
      have HQ := Lib.hid (same1_any (l.getD k d0) (l.getD k d0))
      rw [sameR_refl] at HQ
      generalize l.getD k d0 = r at *
      go_wp2_with (fail)
      have hl10 : ∀ d os, (Go.Sort.grow (redrawn wr d) os).cell? ⟨b1, o1 + k * 5, none⟩ = some (.int .i64 r.m) := fun d os => HC1.out d os 0 _ rfl
      have hl11 : ∀ d os, (Go.Sort.grow (redrawn wr d) os).cell? ⟨b1, o1 + k * 5 + 1, none⟩ = some (.int .i64 r.c) := fun d os => HC1.out d os 1 _ rfl
      have hl12 : ∀ d os, (Go.Sort.grow (redrawn wr d) os).cell? ⟨b1, o1 + k * 5 + 2, none⟩ = some (.int .i64 r.s) := fun d os => HC1.out d os 2 _ rfl
      have hl13 : ∀ d os, (Go.Sort.grow (redrawn wr d) os).cell? ⟨b1, o1 + k * 5 + 3, none⟩ = some (.int .i64 r.w) := fun d os => HC1.out d os 3 _ rfl
      have hl14 : ∀ d os, (Go.Sort.grow (redrawn wr d) os).cell? ⟨b1, o1 + k * 5 + 4, none⟩ = some (.int .i64 r.g) := fun d os => HC1.out d os 4 _ rfl
      have hl20 : ∀ d os, (Go.Sort.grow (redrawn wr d) os).cell? ⟨b2, o2 + k * 5, none⟩ = some (.int .i64 r.m) := fun d os => HC2.out d os 0 _ rfl
      have hl21 : ∀ d os, (Go.Sort.grow (redrawn wr d) os).cell? ⟨b2, o2 + k * 5 + 1, none⟩ = some (.int .i64 r.c) := fun d os => HC2.out d os 1 _ rfl
      have hl22 : ∀ d os, (Go.Sort.grow (redrawn wr d) os).cell? ⟨b2, o2 + k * 5 + 2, none⟩ = some (.int .i64 r.s) := fun d os => HC2.out d os 2 _ rfl
      have hl23 : ∀ d os, (Go.Sort.grow (redrawn wr d) os).cell? ⟨b2, o2 + k * 5 + 3, none⟩ = some (.int .i64 r.w) := fun d os => HC2.out d os 3 _ rfl
      have hl24 : ∀ d os, (Go.Sort.grow (redrawn wr d) os).cell? ⟨b2, o2 + k * 5 + 4, none⟩ = some (.int .i64 r.g) := fun d os => HC2.out d os 4 _ rfl
      refine wp_region_quiet_below (by kernel_rfl) (by kernel_rfl) ?_
      repeat (quiet_step (first | (go_at_call 20; exact Calls.rg (HQ.out _))))
      refine wpQuiet_nil ?_
      rintro _ ⟨⟨dq, osq⟩, rfl⟩
      have hB := below_regrown wr dq osq
      have HB2 := Lib.hid (HB.out.trans (hB.mono HB.out.size))
      clear hB HB HC1 HC2 hl10 hl11 hl12 hl13 hl14 hl20 hl21 hl22 hl23 hl24
      generalize Go.Sort.grow (redrawn wr dq) osq = w2 at *
      go_wp2
      go_roundw
      case rel => exact ⟨k + 1, by omega, by go_num, HB2.out⟩
      case measure => simp [intOf]; omega
    · go_wp2
      go_ret
      exact ⟨rfl, HB.out⟩
theorem block_range {w : World} {g : Nat} {cs : Array Value} {t : TypeId} {fr : Nat × Nat} (h : w.heap[g]? = some (.cells cs t fr)) : w.rangeAt g 0 cs.toList := by
  intro j v hv
  simp only [World.cell?, h, Nat.zero_add]
  simpa using hv
set_option maxRecDepth 100000 in
theorem first_any (w : World) (hT : Tab w) :
    Calls Tryd.prog 7 #[] w fun e w' => e = .returned (.bool true) ∧ Below w.heap.size w w' := by
  have HT := Lib.hid hT
  clear hT
  have HV : bitsR ⟨1, 0, 1, 20, 0⟩ = 24 := by decide
  go_enter Tryd.func7, Tryd.ntmps7
  go_wp2_with (fail)
  refine (bits_any ⟨1, 0, 1, 20, 0⟩ w HT.out).mono ?_
  rintro e w2 ⟨rfl, hB⟩
  rw [HV]
  have HB := Lib.hid hB
  clear hB
  go_wp2
  go_ret
  exact ⟨rfl, HB.out⟩
end Go.Proofs.YtddbboocommodaaDoor
