/-
  CONTRACT of act.readHead.
-/
import Derived.Test.YtjgingfcfmpfaaaDoorActB
import Derived.Test.YtjgingfcfmpfaaaDoorActD
import Derived.Laws.CopyOwn
import Derived.Deep.RegionLaw
namespace Go.Proofs.YtjgingfcfmpfaaaDoor
open Go.ChangeShapes Go.WideShapes Go.ChangeAt Go.RowKit
set_option linter.unusedVariables false
set_option linter.unusedSimpArgs false

abbrev z6 : A6 := ⟨0, 0, 0, 0, 0, 0⟩
theorem results_cell3 {P : Program} {fn : Func} {p q r : Tmp} {ty : TypeId} (h : fn.results = #[.cell p ty, .cell q ty, .cell r ty]) (tmps : Array Value) (w : World) (g1 g2 g3 : Nat) (t : TypeId) (c1 c2 c3 : Array Value) (fr : Nat × Nat) (d : TypeDesc)
    (hp : tmps.getD p undef = .pointer (some ⟨g1, 0, none⟩)) (hq : tmps.getD q undef = .pointer (some ⟨g2, 0, none⟩)) (hr : tmps.getD r undef = .pointer (some ⟨g3, 0, none⟩))
    (h1 : w.heap[g1]? = some (.cells c1 t fr)) (h2 : w.heap[g2]? = some (.cells c2 t fr)) (h3 : w.heap[g3]? = some (.cells c3 t fr))
    (hu : P.underlying ty = some d) (hd : (match d with | .struct _ | .array _ _ => true | _ => false) = true) (hi1 : (P.info? ty).map (·.size) = some c1.size) (hi2 : (P.info? ty).map (·.size) = some c2.size) (hi3 : (P.info? ty).map (·.size) = some c3.size) :
    (results fn tmps).run P w = .ok (.tuple #[.agg c1, .agg c2, .agg c3]) w := by
  have hp' : tmps[p]?.getD undef = .pointer (some ⟨g1, 0, none⟩) := by simpa using hp
  have hq' : tmps[q]?.getD undef = .pointer (some ⟨g2, 0, none⟩) := by simpa using hq
  have hr' : tmps[r]?.getD undef = .pointer (some ⟨g3, 0, none⟩) := by simpa using hr
  simp [results, h, hp', hq', hr', asAddr, run_loadVar_row w g1 t ty c1 fr d h1 hu hd hi1, run_loadVar_row w g2 t ty c2 fr d h2 hu hd hi2, run_loadVar_row w g3 t ty c3 fr d h3 hu hd hi3]
theorem six_drew {w : World} {b off n : Nat} {xs : List Int} (h : RowB .u8 w (some ⟨b, off, none⟩) n xs) (o : Nat) (ho : o + 6 ≤ n) : ∀ j v, (six xs o).cells.toList[j]? = some v → (w.drewN 1).cell? ((⟨b, off + o, none⟩ : Addr).add j) = some v := six_cells (h.drewN 1) o ho
set_option maxRecDepth 100000 in
set_option maxHeartbeats 8000000 in
theorem readHead_any (b off n c : Nat) (xs : List Int) (w : World) (h : RowB .u8 w (some ⟨b, off, none⟩) n xs) (hn : 22 ≤ n) (hnc : n ≤ c) :
    Calls Tryd.prog 30 #[.slice (some ⟨b, off, none⟩) n c] w fun e w' => e = .returned (.tuple #[(six xs 4).val, (six xs 10).val, (six xs 16).val]) ∧ Below w.heap.size w w' := by
  have hle := h.le
  unfold maxLen at hle
  have s1 : (w.alloc (.cells z6.cells 23)).heap.size = w.heap.size + 1 := by simp
  have s2 : ((w.alloc (.cells z6.cells 23)).alloc (.cells z6.cells 23)).heap.size = w.heap.size + 2 := by simp
  have b1 : Below (w.heap.size + 1) (w.alloc (.cells z6.cells 23)) ((w.alloc (.cells z6.cells 23)).alloc (.cells z6.cells 23)) := (Below.refl _ _).alloc (by simp) _
  have b2 : Below (w.heap.size + 2) ((w.alloc (.cells z6.cells 23)).alloc (.cells z6.cells 23)) (((w.alloc (.cells z6.cells 23)).alloc (.cells z6.cells 23)).alloc (.cells z6.cells 23)) := (Below.refl _ _).alloc (by simp) _
  have HG1 := Lib.hid ((b2.block w.heap.size (by simp)).trans ((b1.block w.heap.size (by simp)).trans (heap_alloc_last w (.cells z6.cells 23))))
  have HG2 := Lib.hid (show (((w.alloc (.cells z6.cells 23)).alloc (.cells z6.cells 23)).alloc (.cells z6.cells 23)).heap[w.heap.size + 1]? = some (.cells z6.cells 23 (0, 0)) from (b2.block (w.heap.size + 1) (by simp)).trans (by have := heap_alloc_last (w.alloc (.cells z6.cells 23)) (.cells z6.cells 23); rwa [s1] at this))
  have HG3 := Lib.hid (show (((w.alloc (.cells z6.cells 23)).alloc (.cells z6.cells 23)).alloc (.cells z6.cells 23)).heap[w.heap.size + 2]? = some (.cells z6.cells 23 (0, 0)) from by have := heap_alloc_last ((w.alloc (.cells z6.cells 23)).alloc (.cells z6.cells 23)) (.cells z6.cells 23); rwa [s2] at this)
  have HB := Lib.hid ((((Below.refl w.heap.size w).alloc (Nat.le_refl _) (.cells z6.cells 23)).alloc (by simp) (.cells z6.cells 23)).alloc (by simp; omega) (.cells z6.cells 23))
  have HR := Lib.hid h
  clear s1 s2 b1 b2 h
  have HN := Lib.hid hn
  have d4 : (c = 4) = False := by simp; omega
  have d10 : (c = 10) = False := by simp; omega
  have d16 : (c = 16) = False := by simp; omega
  have k4 : (4 : Int) ≤ (n : Int) := by omega
  have k10 : (10 : Int) ≤ (n : Int) := by omega
  have k16 : (16 : Int) ≤ (n : Int) := by omega
  have hnc' : (n : Int) ≤ (c : Int) := by omega
  have HM4 := Lib.hid (show (six xs 4).cells.toList.length = Nat.min (n - 4) 6 by show 6 = min (n - 4) 6; omega)
  have HM10 := Lib.hid (show (six xs 10).cells.toList.length = Nat.min (n - 10) 6 by show 6 = min (n - 10) 6; omega)
  have HM16 := Lib.hid (show (six xs 16).cells.toList.length = Nat.min (n - 16) 6 by show 6 = min (n - 16) 6; omega)
  have n01 := Nat.ne_of_lt (Nat.lt_succ_self w.heap.size)
  have N12 := Lib.hid (show w.heap.size + 1 ≠ w.heap.size + 2 by omega)
  have N02 := Lib.hid (show w.heap.size ≠ w.heap.size + 2 by omega)
  have N01 := Lib.hid n01
  clear hn n01
  go_enter Tryd.func30, Tryd.ntmps30
  go_wp2
  dsimp only [z6] at HG1 HG2 HG3 HB
  generalize World.alloc (World.alloc (World.alloc w _) _) _ = w1 at *
  go_region_law ((refine step_copy_into rfl (.tmp 5) (.tmp 7) 28 5 rfl Tryd.underlying28 sizeU8 (w.heap.size) 0 6 6 ⟨b, off + 4, none⟩ (n - 4) (c - 4) rfl rfl z6.cells (six xs 4).cells 23 HG1.out (six xs 4).cells.toList HM4.out (six_drew (HR.out.below HB.out) 4 (by have := HN.out; omega)) (by simp) (six xs 4).one rfl ?_; intro w2 hg ho hb))
  have T1 := Lib.hid hg.out
  have T2 := Lib.hid (hb.out w.heap.size w HB.out.drew (by omega))
  have T3 := Lib.hid ((ho.out _ N01.out.symm).trans HG2.out)
  have T4 := Lib.hid ((ho.out _ N02.out.symm).trans HG3.out)
  clear HG1 HB HG2 HG3 hg ho hb
  have HG1 := T1
  have HB := T2
  have HG2 := T3
  have HG3 := T4
  clear T1 T2 T3 T4
  go_wp2
  go_region_law ((refine step_copy_into rfl (.tmp 9) (.tmp 11) 28 5 rfl Tryd.underlying28 sizeU8 (w.heap.size + 1) 0 6 6 ⟨b, off + 10, none⟩ (n - 10) (c - 10) rfl rfl z6.cells (six xs 10).cells 23 HG2.out (six xs 10).cells.toList HM10.out (six_drew (HR.out.below HB.out) 10 (by have := HN.out; omega)) (by simp) (six xs 10).one rfl ?_; intro w3 hg ho hb))
  have T1 := Lib.hid hg.out
  have T2 := Lib.hid (hb.out w.heap.size w HB.out.drew (by omega))
  have T3 := Lib.hid ((ho.out _ N01.out).trans HG1.out)
  have T4 := Lib.hid ((ho.out _ N12.out.symm).trans HG3.out)
  clear HG2 HB HG1 HG3 hg ho hb
  have HG2 := T1
  have HB := T2
  have HG1 := T3
  have HG3 := T4
  clear T1 T2 T3 T4
  go_wp2
  go_region_law ((refine step_copy_into rfl (.tmp 13) (.tmp 15) 28 5 rfl Tryd.underlying28 sizeU8 (w.heap.size + 2) 0 6 6 ⟨b, off + 16, none⟩ (n - 16) (c - 16) rfl rfl z6.cells (six xs 16).cells 23 HG3.out (six xs 16).cells.toList HM16.out (six_drew (HR.out.below HB.out) 16 (by have := HN.out; omega)) (by simp) (six xs 16).one rfl ?_; intro w4 hg ho hb))
  have T1 := Lib.hid hg.out
  have T2 := Lib.hid (hb.out w.heap.size w HB.out.drew (by omega))
  have T3 := Lib.hid ((ho.out _ N02.out).trans HG1.out)
  have T4 := Lib.hid ((ho.out _ N12.out).trans HG2.out)
  clear HG3 HB HG1 HG2 hg ho hb
  have HG3 := T1
  have HB := T2
  have HG1 := T3
  have HG2 := T4
  clear T1 T2 T3 T4
  go_wp2_with (first | (refine wpList_load_row rfl 23 (.tmp 2) rfl (w.heap.size) rfl 23 (six xs 4).cells (0, 0) _ HG1.out Tryd.underlying23 rfl size6 ?_) | (refine wpList_load_row rfl 23 (.tmp 3) rfl (w.heap.size + 1) rfl 23 (six xs 10).cells (0, 0) _ HG2.out Tryd.underlying23 rfl size6 ?_) | (refine wpList_load_row rfl 23 (.tmp 4) rfl (w.heap.size + 2) rfl 23 (six xs 16).cells (0, 0) _ HG3.out Tryd.underlying23 rfl size6 ?_) | (refine wpList_store_row rfl 23 (.tmp 2) (.tmp 17) rfl (w.heap.size) (six xs 4).cells rfl rfl 23 (six xs 4).cells HG1.out size6 rfl (A6.oneCell _) ?_; rw [setRow_same _ _ _ _ _ HG1.out]) | (refine wpList_store_row rfl 23 (.tmp 3) (.tmp 18) rfl (w.heap.size + 1) (six xs 10).cells rfl rfl 23 (six xs 10).cells HG2.out size6 rfl (A6.oneCell _) ?_; rw [setRow_same _ _ _ _ _ HG2.out]) | (refine wpList_store_row rfl 23 (.tmp 4) (.tmp 19) rfl (w.heap.size + 2) (six xs 16).cells rfl rfl 23 (six xs 16).cells HG3.out size6 rfl (A6.oneCell _) ?_; rw [setRow_same _ _ _ _ _ HG3.out]))
  refine bodyPost_ret (v := .tuple #[(six xs 4).val, (six xs 10).val, (six xs 16).val]) (results_cell3 (p := 2) (q := 3) (r := 4) Tryd.results30 _ _ (w.heap.size) (w.heap.size + 1) (w.heap.size + 2) _ (six xs 4).cells (six xs 10).cells (six xs 16).cells _ _ rfl rfl rfl HG1.out HG2.out HG3.out Tryd.underlying23 rfl size6 size6 size6) rfl ⟨rfl, HB.out⟩
end Go.Proofs.YtjgingfcfmpfaaaDoor
