/-
  CONTRACTS of package win: New, Next, Start, Ahead, Size, Resize, Clone, isOut.
-/
import Derived.Test.YtlbfioknkagboaaDoorSeqK
import Derived.Test.YtlbfioknkagboaaDoorErrP
namespace Go.Proofs.YtlbfioknkagboaaDoor
open Go.ChangeShapes Go.WideShapes Go.ChangeAt Go.RowKit Go.Deep
set_option linter.unusedVariables false
set_option linter.unusedSimpArgs false

/-- the window lies at g. -/
def IsWin (w : World) (g : Nat) (x : Wo) : Prop := w.heap[g]? = some (.cells #[.int .i64 ((x.st : Nat) : Int), .int .i64 ((nmW x x.gv : Nat) : Int), .int .i64 ((x.sz : Nat) : Int), .int .u64 ((wdW x.ds : Nat) : Int)] 97 (0, 0))
theorem IsWin.only {S : Nat → Prop} {w w' : World} {g : Nat} {x : Wo} (h : IsWin w g x) (ho : Only S w w') (hn : ¬ S g) : IsWin w' g x := ho.at_ h hn
theorem IsWin.below {w w' : World} {g : Nat} {x : Wo} (h : IsWin w g x) (hb : Below w.heap.size w w') : IsWin w' g x := (hb.block g (lt_blk h)).trans h
theorem IsWin.lt {w : World} {g : Nat} {x : Wo} (h : IsWin w g x) : g < w.heap.size := lt_blk h
theorem InvW.lts {x : Wo} (h : InvW x) : ∀ d ∈ x.ds, d < 64 := fun d hd => by have := h.lt d hd; have := h.gv; have := h.sz; omega
theorem InvW.wd {x : Wo} (h : InvW x) : wdW x.ds < 18446744073709551616 := wd_lt h.lts
theorem sizeWin : (Tryd.prog.info? 97).map (·.size) = some 4 := by kernel_rfl
theorem sizeU64 : (Tryd.prog.info? 42).map (·.size) = some 1 := by kernel_rfl
theorem ret_t2 {a b : Value} (v : Value) (h : b = a) : Ending.returned (.tuple #[v, a]) = .returned (.tuple #[v, b]) := by rw [h]

/-! ### whether a size may be -/
def fitB (n : Int) : Bool := decide (1 ≤ n) && decide (n ≤ 64)
set_option maxRecDepth 100000 in
set_option maxHeartbeats 4000000 in
theorem fits_any (n : Int) (w : World) : Calls Tryd.prog 56 #[.int .i64 n] w fun e w' => e = .returned (.bool (fitB n)) ∧ w = w' := by
  by_cases h1 : 1 ≤ n
  · have H := Shut.mk (show fitB n = decide (n ≤ 64) by unfold fitB; simp [h1])
    go_enter Tryd.func56, Tryd.ntmps56
    go_wp2
    go_ret
    exact ⟨ret_b H.out, rfl⟩
  · have H := Shut.mk (show fitB n = false by unfold fitB; simp; omega)
    have h2 : n < 1 := by omega
    go_enter Tryd.func56, Tryd.ntmps56
    go_wp2
    go_ret
    exact ⟨ret_b H.out, rfl⟩

/-! ### New -/
set_option maxRecDepth 100000 in
set_option maxHeartbeats 4000000 in
theorem new_ok (s n : Nat) (hs : s < 4096) (h1 : 1 ≤ n) (h2 : n ≤ 64) (w : World) :
    Calls Tryd.prog 32 #[.int .i64 (s : Nat), .int .i64 (n : Nat)] w fun e w' => e = .returned (.tuple #[.pointer (some ⟨w.heap.size, 0, none⟩), .nilIface]) ∧ IsWin w' w.heap.size (newW s n) ∧ Below w.heap.size w w' := by
  have HA := Shut.mk ((Below.refl w.heap.size w).alloc (Nat.le_refl _) (Obj.cells #[.int .i64 ((s : Nat) : Int), .int .i64 ((s : Nat) : Int), .int .i64 ((n : Nat) : Int), .int .u64 0] 97 (0, 0)))
  have HN := Shut.mk (MapKept.heap_alloc w (Obj.cells #[.int .i64 ((s : Nat) : Int), .int .i64 ((s : Nat) : Int), .int .i64 ((n : Nat) : Int), .int .u64 0] 97 (0, 0))).1
  have HM := Shut.mk (show nmW (newW s n) (newW s n).gv = s by unfold nmW newW; dsimp only; omega)
  have t1 : ¬ (s : Int) < 0 := by omega
  have t2 : (s : Int) < 4096 := by omega
  have HF := Shut.mk (fits_any (n : Int) w)
  rw [show fitB (n : Int) = true by unfold fitB; simp; omega] at HF
  go_enter Tryd.func32, Tryd.ntmps32
  go_wp2_with (fail)
  refine HF.out.mono ?_
  rintro e w' ⟨rfl, rfl⟩
  go_wp2_with (fail)
  go_ret2
  refine ⟨rfl, ?_, HA.out⟩
  have h := HN.out
  unfold IsWin
  rw [HM.out]
  exact h
set_option maxRecDepth 100000 in
set_option maxHeartbeats 4000000 in
theorem new_no (s n : Int) (h : ¬ (0 ≤ s ∧ s < 4096 ∧ 1 ≤ n ∧ n ≤ 64)) (w : World) (E : Nat → Addr) (he : w.cell? ⟨0, 0, none⟩ = some (errP (E 103))) :
    Calls Tryd.prog 32 #[.int .i64 s, .int .i64 n] w fun e w' => e = .returned (.tuple #[.pointer none, errP (E 103)]) ∧ Below w.heap.size w w' := by
  generalize E 103 = er at *
  by_cases h1 : 0 ≤ s ∧ s < 4096
  · have t1 : ¬ s < 0 := by omega
    have t2 : s < 4096 := by omega
    have HF := Shut.mk (fits_any n w)
    rw [show fitB n = false by unfold fitB; simp; omega] at HF
    clear h h1
    go_enter Tryd.func32, Tryd.ntmps32
    go_wp2_with (fail)
    refine HF.out.mono ?_
    rintro e w' ⟨rfl, rfl⟩
    go_wp2_with (fail)
    go_quiet (fail)
    go_wp2_with (fail)
    go_ret2
    exact ⟨rfl, below_drewN (Below.refl _ _) _⟩
  · by_cases h0 : s < 0
    · clear h h1
      go_enter Tryd.func32, Tryd.ntmps32
      go_wp2_with (fail)
      go_quiet (fail)
      go_wp2_with (fail)
      go_ret2
      exact ⟨rfl, below_drewN (Below.refl _ _) _⟩
    · have t2 : ¬ s < 4096 := by omega
      clear h h1
      go_enter Tryd.func32, Tryd.ntmps32
      go_wp2_with (fail)
      go_quiet (fail)
      go_wp2_with (fail)
      go_ret2
      exact ⟨rfl, below_drewN (Below.refl _ _) _⟩

/-! ### what it tells -/
theorem start_any (g : Nat) (x : Wo) (w : World) (hx : IsWin w g x) : Calls Tryd.prog 41 #[.pointer (some ⟨g, 0, none⟩)] w fun e w' => e = .returned (.int .i64 (x.st : Nat)) ∧ w = w' := by
  have c0 : w.cell? ⟨g, 0, none⟩ = some (.int .i64 ((x.st : Nat) : Int)) := by simpa using (block_range hx) 0 _ rfl
  clear hx
  go_enter Tryd.func41, Tryd.ntmps41
  go_wp2
  go_ret
  exact ⟨rfl, rfl⟩
theorem ahead_any (g : Nat) (x : Wo) (w : World) (hx : IsWin w g x) : Calls Tryd.prog 33 #[.pointer (some ⟨g, 0, none⟩)] w fun e w' => e = .returned (.int .i64 (nmW x x.gv : Nat)) ∧ w = w' := by
  have c0 : w.cell? ⟨g, 1, none⟩ = some (.int .i64 ((nmW x x.gv : Nat) : Int)) := by simpa using (block_range hx) 1 _ rfl
  clear hx
  go_enter Tryd.func33, Tryd.ntmps33
  go_wp2
  go_ret
  exact ⟨rfl, rfl⟩
theorem size_any (g : Nat) (x : Wo) (w : World) (hx : IsWin w g x) : Calls Tryd.prog 53 #[.pointer (some ⟨g, 0, none⟩)] w fun e w' => e = .returned (.int .i64 (x.sz : Nat)) ∧ w = w' := by
  have c0 : w.cell? ⟨g, 2, none⟩ = some (.int .i64 ((x.sz : Nat) : Int)) := by simpa using (block_range hx) 2 _ rfl
  clear hx
  go_enter Tryd.func53, Tryd.ntmps53
  go_wp2
  go_ret
  exact ⟨rfl, rfl⟩
end Go.Proofs.YtlbfioknkagboaaDoor
