/-
  append(b, make([]byte, k)...) ONTO A ROW OF BYTES OF THE CALL's OWN.
-/
import Derived.Test.YtejdmpdbapfomaaDoorApp
import Derived.Lib.AppendZerosOnto
import Derived.Lib.AppendZeros
namespace Go.Proofs.YtejdmpdbapfomaaDoor
open Go.ChangeShapes Go.WideShapes Go.ChangeAt Go.RowKit
set_option linter.unusedVariables false

theorem zeroCells8 (k : Nat) : (Builtin.zeroCells (Value.int .u8 0).cells k).toList = (List.replicate k (0 : Int)).map (Value.int .u8) := by
  apply List.ext_getElem
  · simp [Builtin.zeroCells, Value.cells]
  · intro i h1 h2
    simp [Builtin.zeroCells, Value.cells, Nat.mod_one]
theorem intT : Tryd.prog.underlying 3 = some (.int .i64) := Tryd.underlying3

theorem run_zeros_own (w : World) (B g n cap k : Nat) (ty : TypeId) (xs : List Int) (hO : OwnB w B 5 .u8 g n cap xs) (h0 : 0 < k) (hm : n + k ≤ 1000000000) (hB : B ≤ w.heap.size) :
    ∃ g' cap' w', (Builtin.append_ #[23, 3] ty #[.slice (some ⟨g, 0, none⟩) n cap, .int .i64 k]).run Tryd.prog w = .ok (.slice (some ⟨g', 0, none⟩) (n + k) cap') w' ∧
      OwnB w' B 5 .u8 g' (n + k) cap' (xs ++ List.replicate k 0) ∧ Below B w w' := by
  obtain ⟨i0, hi0, hz0, hz1, hz2⟩ := info_parts byte_info
  have hlx := hO.len
  have hZ : Builtin.zeroCells (Value.int .u8 0).cells k = ((List.replicate k (0 : Int)).map (Value.int .u8)).toArray := by
    apply Array.toList_inj.1; rw [zeroCells8]
  rcases hO.2 with ⟨h', _⟩ | ⟨g1, cap1, cur, h', hbg, hg, hnc, hcm, hcs, htake⟩
  · simp at h'
  simp only [Value.slice.injEq, Option.some.injEq, Addr.mk.injEq, and_true, true_and] at h'
  obtain ⟨rfl, rfl⟩ := h'
  have hns : ¬ (k * i0.size = 0) := by rw [hz1]; omega
  have hw : IntKind.i64.wrap (k : Int) = k := by rw [IntKind.wrap_i64]; omega
  have hneg : ¬ ((k : Int) < 0) := by omega
  have h48i : ¬ (281474976710656 < (k : Int)) := by omega
  by_cases hroom : n + k ≤ cap
  · have hst := run_storeCells_at Tryd.prog g n 5 ((List.replicate k (0 : Int)).map (Value.int .u8)) 0 cur w hg (by simp; omega) (by intro u hu; simp at hu; obtain ⟨_, rfl⟩ := hu; rfl)
    simp only [Nat.add_zero] at hst
    refine ⟨g, cap, w.setRow g (cur.toList.take n ++ (List.replicate k (0 : Int)).map (Value.int .u8) ++ cur.toList.drop (n + ((List.replicate k (0 : Int)).map (Value.int .u8)).length)).toArray, ?_, ?_, ?_⟩
    · simp only [Builtin.append_]
      simp [run_underlying Tryd.underlying23, run_underlying intT, sizeOf, typeInfo, zeroValue, hi0, hz0, hz1, hz2, asInt, asIntOf, hw, hneg, h48i, hroom, show k ≠ 0 by omega, hZ, Addr.add_mid]
      have hst' := by simpa using hst
      rw [hst']
      rfl
    · refine ⟨by simp; omega, .inr ⟨g, cap, _, rfl, hbg, setRow_heap w g cur _ _ _ hg, hroom, hcm, by simp; omega, ?_⟩⟩
      simp only [Nat.mul_one] at htake ⊢
      rw [htake]
      rw [List.map_append]
      have hl : (xs.map (Value.int .u8) ++ (List.replicate k (0 : Int)).map (Value.int .u8)).length = n + k := by simp [hlx]
      exact List.take_left' hl
    · exact ⟨rfl, rfl, rfl, by simp, fun b hb => setRow_other w g b _ (by omega)⟩
  · have hold : (Builtin.firstCells i0.size n (.slice (some ⟨g, 0, none⟩) n cap)).run Tryd.prog w.drew = .ok (xs.map (Value.int .u8)).toArray w.drew := by
      have := run_firstCells_some (P := Tryd.prog) w.drew i0.size n ⟨g, 0, none⟩ n cap (xs.map (Value.int .u8)) (by simp [hz1, hlx]) (World.ownsRow.cells (g := g) hO rfl)
      exact this
    have hr := Lib.run_append_grow_zeros (P := Tryd.prog) w 23 3 ty 5 i0 (.int .u8 0) .i64 .i64 Tryd.underlying23 intT hi0 hz0 (some ⟨g, 0, none⟩) n cap (xs.map (Value.int .u8)) hold k h0 (by rw [hz1]; omega) (by omega) (by omega) (by rw [hz2]; omega) (growslice_fits (by omega) (by rw [hz2]; omega))
    refine ⟨w.heap.size, _, _, hr, ?_, ?_⟩
    · have hge := grownCap_ge w (n + k) cap 5
      have hcm2 : grownCap w (n + k) cap 5 ≤ maxLen := grownCap_le_maxLen w (n + k) cap 5 (by unfold maxLen; omega)
      refine ⟨by simp; omega, .inr ⟨w.heap.size, _, _, rfl, hB, heap_alloc_new w.drew _, hge, hcm2, ?_, ?_⟩⟩
      · rw [hZ]
        simp [size_zeroCells, Value.cells, hlx]
        omega
      · rw [hZ]
        simp only [Array.toList_append, List.append_assoc, Nat.mul_one]
        have hl : (xs.map (Value.int .u8) ++ (List.replicate k (0 : Int)).map (Value.int .u8)).length = n + k := by simp [hlx]
        rw [List.map_append, ← List.append_assoc, ← hl]
        exact List.take_left
    · exact ((Below.refl B w).drew).alloc hB _
theorem app_zeros {w : World} {ops : Array Oper} {rest : List Oper} {o : Oper} {a : Act} {Q : Exit → Act → World → Prop} (hgd : o.guard = none) (s x : Operand)
    (ho : o.op = .call { callee := .builtin .append, args := #[s, x], argTypes := #[23, 3] }) (B g n cap k : Nat) (xs : List Int)
    (hs : a.eval s = .slice (some ⟨g, 0, none⟩) n cap) (hO : OwnB w B 5 .u8 g n cap xs) (hx : a.eval x = .int .i64 k) (h0 : 0 < k) (hm : n + k ≤ 1000000000) (hB : B ≤ w.heap.size)
    (h : ∀ g' cap' w', Hid (OwnB w' B 5 .u8 g' (n + k) cap' (xs ++ List.replicate k 0)) → Hid (Below B w w') → wpList Tryd.prog ops Q rest (a.put o.dst (.slice (some ⟨g', 0, none⟩) (n + k) cap')) w') : wpList Tryd.prog ops Q (o :: rest) a w := by
  obtain ⟨g', cap', w', hr, h1, h2⟩ := run_zeros_own w B g n cap k o.type xs hO h0 hm hB
  exact Lib.wpList_append_run w hgd s x _ _ ho _ _ hs hx _ _ hr (h g' cap' w' h1 h2)
end Go.Proofs.YtejdmpdbapfomaaDoor
