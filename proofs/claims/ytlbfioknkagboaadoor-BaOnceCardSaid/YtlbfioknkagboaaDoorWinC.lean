/-
  CONTRACTS of win's Resize, Clone, Out.
-/
import Derived.Test.YtlbfioknkagboaaDoorWinB
namespace Go.Proofs.YtlbfioknkagboaaDoor
open Go.ChangeShapes Go.WideShapes Go.ChangeAt Go.RowKit Go.Deep
set_option linter.unusedVariables false
set_option linter.unusedSimpArgs false

/-! ### Resize -/
set_option maxRecDepth 100000 in
set_option maxHeartbeats 4000000 in
theorem resize_range (g : Nat) (n : Int) (w : World) (hn : fitB n = false) (E : Nat → Addr) (he : w.cell? ⟨0, 0, none⟩ = some (errP (E 103))) :
    Calls Tryd.prog 34 #[.pointer (some ⟨g, 0, none⟩), .int .i64 n] w fun e w' => e = .returned (errP (E 103)) ∧ w = w' := by
  generalize E 103 = er at *
  have HF := Shut.mk (fits_any n w)
  rw [hn] at HF
  clear hn
  go_enter Tryd.func34, Tryd.ntmps34
  go_wp2_with (fail)
  refine HF.out.mono ?_
  rintro e w5 ⟨rfl, rfl⟩
  go_wp2_with (fail)
  go_ret
  exact ⟨rfl, rfl⟩
set_option maxRecDepth 100000 in
set_option maxHeartbeats 4000000 in
theorem resize_state (g : Nat) (x : Wo) (n : Int) (w : World) (hx : IsWin w g x) (hn : fitB n = true) (hd : x.ds ≠ []) (E : Nat → Addr) (he : w.cell? ⟨1, 0, none⟩ = some (errP (E 110))) :
    Calls Tryd.prog 34 #[.pointer (some ⟨g, 0, none⟩), .int .i64 n] w fun e w' => e = .returned (errP (E 110)) ∧ w = w' := by
  generalize E 110 = er at *
  have HF := Shut.mk (fits_any n w)
  rw [hn] at HF
  have hz : (((wdW x.ds : Nat) : Int) != 0) = true := by
    have : wdW x.ds ≠ 0 := fun h => hd (wd_none h)
    simpa using this
  obtain ⟨-, -, -, c3⟩ := hx.cell
  clear hn hx hd
  generalize wdW x.ds = u at *
  go_enter Tryd.func34, Tryd.ntmps34
  go_wp2_with (fail)
  refine HF.out.mono ?_
  rintro e w5 ⟨rfl, rfl⟩
  go_wp2_with (fail)
  go_ret
  exact ⟨rfl, rfl⟩
set_option maxRecDepth 100000 in
set_option maxHeartbeats 4000000 in
theorem resize_ok (g : Nat) (x : Wo) (n : Nat) (w : World) (hx : IsWin w g x) (hn : fitB (n : Int) = true) (hd : x.ds = []) :
    Calls Tryd.prog 34 #[.pointer (some ⟨g, 0, none⟩), .int .i64 (n : Nat)] w fun e w' => e = .returned .nilIface ∧ IsWin w' g ⟨x.st, x.gv, n, x.ds⟩ ∧ Only (· = g) w w' := by
  have HF := Shut.mk (fits_any n w)
  rw [hn] at HF
  have hz : (((wdW x.ds : Nat) : Int) != 0) = false := by rw [hd]; rfl
  obtain ⟨-, -, -, c3⟩ := hx.cell
  have HX := Shut.mk hx
  have HR := Shut.mk (Only.refl (· = g) w)
  have HBw7 := Shut.mk (setRow_heap w g _ #[.int .i64 ((x.st : Nat) : Int), .int .i64 ((nmW x x.gv : Nat) : Int), .int .i64 ((n : Nat) : Int), .int .u64 ((wdW x.ds : Nat) : Int)] _ (0, 0) HX.out)
  have HOw7 := Shut.mk (HR.out.setRow (g := g) (fun _ => rfl) #[.int .i64 ((x.st : Nat) : Int), .int .i64 ((nmW x x.gv : Nat) : Int), .int .i64 ((n : Nat) : Int), .int .u64 ((wdW x.ds : Nat) : Int)])
  obtain ⟨w7, hw7⟩ : ∃ w', w' = w.setRow g #[.int .i64 ((x.st : Nat) : Int), .int .i64 ((nmW x x.gv : Nat) : Int), .int .i64 ((n : Nat) : Int), .int .u64 ((wdW x.ds : Nat) : Int)] := ⟨_, rfl⟩
  rw [← hw7] at HBw7 HOw7
  have HWw7 := Shut.mk hw7.symm
  clear hw7
  clear hn hx hd
  go_enter Tryd.func34, Tryd.ntmps34
  go_wp2_with (fail)
  refine HF.out.mono ?_
  rintro e w5 ⟨rfl, rfl⟩
  go_wp2_with (refine wpList_store_into rfl 3 (.tmp 18) (.tmp 16) rfl g 2 (.int .i64 ((n : Nat) : Int)) rfl rfl rfl 97 _ #[.int .i64 ((x.st : Nat) : Int), .int .i64 ((nmW x x.gv : Nat) : Int), .int .i64 ((n : Nat) : Int), .int .u64 ((wdW x.ds : Nat) : Int)] HX.out size1i (show 2 < 4 by decide) rfl ?_; rw [HWw7.out])
  go_ret
  exact ⟨rfl, HBw7.out, HOw7.out⟩

/-! ### Clone -/
/-! ### Out -/
/-- what is out, as its numbers. -/
def outI (x : Wo) : List Int := x.ds.map fun d => ((nmW x d : Nat) : Int)
theorem outI_len (x : Wo) : (outI x).length = x.ds.length := by unfold outI; simp
theorem and_low {d : Nat} {r : List Nat} (h : (d :: r).Pairwise fun a b => a < b) (hl : ∀ k ∈ d :: r, k < 64) : bits .and .u64 ((wdW (d :: r) : Nat) : Int) (((wdW (d :: r) : Nat) : Int) - 1) = ((wdW r : Nat) : Int) := by
  have h0 : wdW (d :: r) ≠ 0 := wd_pos
  have hw := wd_lt hl
  rw [show ((wdW (d :: r) : Nat) : Int) - 1 = ((wdW (d :: r) - 1 : Nat) : Int) by omega, bits_and_u64_nat _ _ hw (by omega), wd_low h]
theorem wd_less {d : Nat} {r : List Nat} (h : (d :: r).Pairwise fun a b => a < b) : wdW r < wdW (d :: r) := by
  obtain ⟨e1, e2⟩ := wd_odd h
  have hp : 0 < 2 ^ d := Nat.pos_of_ne_zero (by simp)
  have e3 : 2 ^ d * (2 * (wdW r / 2 ^ (d + 1)) + 1) = 2 ^ d * (2 * (wdW r / 2 ^ (d + 1))) + 2 ^ d := by rw [Nat.mul_add, Nat.mul_one]
  omega
end Go.Proofs.YtlbfioknkagboaaDoor
