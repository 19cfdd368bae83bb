/-
  CONTRACT of muezzinref1.ReadQoS where it answers an error at the head: the end, the kind.
-/
import Derived.Test.YtogcpommidfmnaaDoorQosN
import Derived.Test.YtogcpommidfmnaaDoorQosF
namespace Go.Proofs.YtogcpommidfmnaaDoor
open Go.ChangeShapes Go.WideShapes Go.ChangeAt Go.RowKit
set_option linter.unusedVariables false
set_option linter.unusedSimpArgs false

set_option maxRecDepth 100000 in
set_option maxHeartbeats 8000000 in
theorem ref_end (A : Option Addr) (n c : Nat) (w : World) (h : n < 26) :
    Calls Tryd.prog 15 #[.slice A n c] w fun e w' => e = .returned (.tuple #[q0.val, .int .i64 101]) ∧ Below w.heap.size w w' := by
  have HG := Lib.hid (heap_alloc_last w (.cells q0.cells 26))
  have HB := Lib.hid ((Below.refl w.heap.size w).alloc (Nat.le_refl _) (.cells q0.cells 26))
  have h1 : (n : Int) < 26 := by omega
  dsimp only [q0, Qf.cells] at HG HB
  go_enter Tryd.func15, Tryd.ntmps15
  go_wp2_with (refine wpList_store_row rfl 26 (.tmp 2) (.tmp 8) rfl w.heap.size q0.cells rfl rfl 26 q0.cells HG.out size26 rfl (Qf.oneCell _) ?_; rw [setRow_same _ _ _ _ _ HG.out])
  refine bodyPost_ret (v := .tuple #[q0.val, .int .i64 101]) (results_cell_slot (p := 2) (q := 3) Tryd.results15 _ _ w.heap.size _ q0.cells _ _ rfl HG.out Tryd.underlying26 rfl size26) rfl ⟨rfl, HB.out⟩

set_option maxRecDepth 100000 in
set_option maxHeartbeats 8000000 in
theorem ref_kind (A : Option Addr) (n c : Nat) (xs : List Int) (w : World) (h : RowB .u8 w A n xs) (hn : 26 ≤ n) (hk : xs.getD 0 0 ≠ 136) :
    Calls Tryd.prog 15 #[.slice A n c] w fun e w' => e = .returned (.tuple #[q0.val, .int .i64 105]) ∧ Below w.heap.size w w' := by
  have HG := Lib.hid (heap_alloc_last w (.cells q0.cells 26))
  have HB := Lib.hid ((Below.refl w.heap.size w).alloc (Nat.le_refl _) (.cells q0.cells 26))
  have hle := h.le
  unfold maxLen at hle
  have HR := Lib.hid (h.below ((Below.refl w.heap.size w).alloc (Nat.le_refl _) (.cells q0.cells 26)))
  obtain ⟨b, off, rfl, hc⟩ := HR.out.el 0 (by omega)
  rw [Nat.add_zero] at hc
  have hn' : (26 : Int) ≤ (n : Int) := by omega
  have b0 : (0 : Int) < (n : Int) := by omega
  clear h
  have hk' : (xs.getD 0 0 != 136) = true := by simpa using hk
  generalize xs.getD 0 0 = v0 at *
  clear hk HR
  dsimp only [q0, Qf.cells] at hc HG HB
  go_enter Tryd.func15, Tryd.ntmps15
  go_wp2_with (refine wpList_store_row rfl 26 (.tmp 2) (.tmp 13) rfl w.heap.size q0.cells rfl rfl 26 q0.cells HG.out size26 rfl (Qf.oneCell _) ?_; rw [setRow_same _ _ _ _ _ HG.out])
  refine bodyPost_ret (v := .tuple #[q0.val, .int .i64 105]) (results_cell_slot (p := 2) (q := 3) Tryd.results15 _ _ w.heap.size _ q0.cells _ _ rfl HG.out Tryd.underlying26 rfl size26) rfl ⟨rfl, HB.out⟩
end Go.Proofs.YtogcpommidfmnaaDoor
