/-
  SIX BYTES AS A VALUE; muezzinref.SameAddr.
-/
import Derived.Test.YtjgingfcfmpfaaaDoorBytes
import Derived.Test.YtjgingfcfmpfaaaDoorNum
import Derived.Test.YtjgingfcfmpfaaaDoorErr
import Derived.Deep.DrawnRows
import Derived.Stop.LaidErr
import Derived.Laws.IdiomStrings
namespace Go.Proofs.YtjgingfcfmpfaaaDoor
open Go.ChangeShapes Go.WideShapes Go.ChangeAt Go.RowKit
set_option linter.unusedVariables false
set_option linter.unusedSimpArgs false

/-- six bytes. -/
structure A6 where
  (x0 x1 x2 x3 x4 x5 : Int)
def A6.l (a : A6) : List Int := [a.x0, a.x1, a.x2, a.x3, a.x4, a.x5]
abbrev A6.cells (a : A6) : Array Value := #[.int .u8 a.x0, .int .u8 a.x1, .int .u8 a.x2, .int .u8 a.x3, .int .u8 a.x4, .int .u8 a.x5]
abbrev A6.val (a : A6) : Value := .agg a.cells
/-- each a byte. -/
def A6.wf (a : A6) : Prop := ∀ x ∈ a.l, 0 ≤ x ∧ x ≤ 255
/-- so much of what is so. -/
def fl (on : Bool) (v : Int) : Int := if on then v else 0
theorem A6.len (a : A6) : a.l.length = 6 := rfl
theorem A6.get (a : A6) (i : Nat) (h : i < 6) : a.cells[i]? = some (.int .u8 (a.l.getD i 0)) := by
  match i, h with
  | 0, _ | 1, _ | 2, _ | 3, _ | 4, _ | 5, _ => rfl
theorem cells_new (w : World) (cs : Array Value) (t : TypeId) (i : Nat) : (w.alloc (.cells cs t)).cell? ⟨w.heap.size, i, none⟩ = cs[i]? := World.cell?_alloc_mark w cs t (0, 0) i
theorem A6.at_ (a : A6) (w : World) (t : TypeId) (i : Nat) (h : i < 6) : (w.alloc (.cells a.cells t)).cell? ⟨w.heap.size, i, none⟩ = some (.int .u8 (a.l.getD i 0)) := (cells_new w _ t i).trans (a.get i h)

set_option maxRecDepth 100000 in
set_option maxHeartbeats 4000000 in
theorem sameAddr_any (a c : A6) (w : World) :
    Calls Tryd.prog 38 #[a.val, c.val] w fun e w' => e = .returned (.bool (sameB a.l c.l)) ∧ Below w.heap.size w w' := by
  have HB := Lib.hid (((Below.refl w.heap.size w).alloc (Nat.le_refl _) (.cells a.cells 23)).alloc (by simp) (.cells c.cells 23))
  have H1 := Lib.hid (show ∀ i : Nat, i < 6 → ((w.alloc (.cells a.cells 23)).alloc (.cells c.cells 23)).cell? ⟨w.heap.size, i, none⟩ = some (.int .u8 (a.l.getD i 0)) from
    fun i hi => cell?_alloc_old _ (a.at_ w _ i hi))
  have H2 := Lib.hid (show ∀ i : Nat, i < 6 → ((w.alloc (.cells a.cells 23)).alloc (.cells c.cells 23)).cell? ⟨w.heap.size + 1, i, none⟩ = some (.int .u8 (c.l.getD i 0)) from
    fun i hi => by have := c.at_ (w.alloc (.cells a.cells 23)) 23 i hi; rwa [show (w.alloc (.cells a.cells 23)).heap.size = w.heap.size + 1 by simp] at this)
  go_enter Tryd.func38, Tryd.ntmps38
  go_wp2
  generalize hw : World.alloc (World.alloc w _) _ = w2 at *
  clear hw
  go_loopw [5] (fun i wr => ∃ k n : Nat, k ≤ 6 ∧ i = .int .i64 k ∧ a.l.take k = c.l.take k ∧ wr = w2.drewN n) (fun i _ => 6 - (intOf i).toNat)
  case atStart => exact ⟨0, 0, by omega, rfl, by simp, rfl⟩
  case round =>
    obtain ⟨k, n, hk, rfl, hAB, rfl⟩ := hrel
    have HAB := Lib.hid hAB
    clear hAB
    by_cases hlt : k < 6
    · have c1 := H1.out k hlt
      have c2 := H2.out k hlt
      have hi : (k : Int) < 6 := by omega
      by_cases he : a.l.getD k 0 = c.l.getD k 0
      · have HS := Lib.hid (same_step HAB.out (by rw [a.len]; exact hlt) (by rw [c.len]; exact hlt) he)
        rw [he] at c1
        generalize c.l.getD k 0 = y at *
        clear he
        go_wp2
        go_quiet (fail)
        go_wp2
        go_roundw
        case rel => exact ⟨k + 1, _, by omega, by go_num, HS.out, rfl⟩
        case measure => simp [intOf]; omega
      · have HS := Lib.hid (same_not he)
        have hb' : (a.l.getD k 0 == c.l.getD k 0) = false := by simpa using he
        have hb2 : (a.l.getD k 0 != c.l.getD k 0) = true := by simpa using he
        generalize c.l.getD k 0 = y at *
        generalize a.l.getD k 0 = x at *
        clear he
        go_wp2
        go_quiet (fail)
        go_wp2
        go_ret
        exact ⟨ret_b HS.out, below_drewN (below_drewN HB.out _) _⟩
    · have HS := Lib.hid (same_all HAB.out (by rw [a.len]; omega) (by rw [c.len]; omega))
      go_wp2
      go_ret
      exact ⟨ret_b HS.out, below_drewN HB.out _⟩

end Go.Proofs.YtjgingfcfmpfaaaDoor
