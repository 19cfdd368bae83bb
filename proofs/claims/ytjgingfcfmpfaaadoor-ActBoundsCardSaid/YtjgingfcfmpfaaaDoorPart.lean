/-
  A PIECE OF A STRUCT STORED INTO A BLOCK THAT IS KNOWN WHOLE; one field, as a step of a region that draws; the row of a literal slice.
-/
import Derived.Test.YtjgingfcfmpfaaaDoorGen
import Derived.Laws.CopyRow
namespace Go.Proofs.YtjgingfcfmpfaaaDoor
open Go.ChangeShapes Go.WideShapes Go.ChangeAt Go.RowKit
set_option linter.unusedVariables false
set_option linter.unusedSimpArgs false

theorem run_storeAt_part {P : Program} (w : World) (g o : Nat) (t ty : TypeId) (cur new cs : Array Value) (hg : w.heap[g]? = some (.cells cur t (0, 0))) (hi : (P.info? ty).map (·.size) = some cs.size) (hfit : o + cs.size ≤ cur.size) (h1 : cs.all (·.oneCell') = true)
    (hnew : (cur.toList.take o ++ cs.toList ++ cur.toList.drop (o + cs.size)).toArray = new) :
    (Instr.storeAt ty (.pointer (some ⟨g, o, none⟩)) (.agg cs)).run P w = .ok () (w.setRow g new) := by
  subst hnew
  have hst := run_storeCells_at P g o t cs.toList 0 cur w hg (by simpa using hfit) (fun v hv => (Array.all_eq_true_iff_forall_mem.1 h1) v (by simpa using hv))
  cases hq : P.info? ty with
  | none => simp [hq] at hi
  | some i =>
    have hs : cs.size = i.size := by simp [hq] at hi; omega
    simp only [Nat.add_zero, Array.length_toList] at hst
    simp [Instr.storeAt, Instr.sureAddr, storeVar, sizeOf, typeInfo, hq, Value.cells, hs, hst, Result.andThen]
theorem wpList_store_part {P : Program} {ops : Array Oper} {rest : List Oper} {o : Oper} {a : Act} {w : World} {Q : Exit → Act → World → Prop} (hgd : Region.wanted o (yielded ops a.tmps) = true) (ty : TypeId) (x y : Operand) (ho : o.op = .store ty x y)
    (g i : Nat) (cs : Array Value) (hx : a.eval x = .pointer (some ⟨g, i, none⟩)) (hy : a.eval y = .agg cs)
    (t : TypeId) (cur new : Array Value) (hg : w.heap[g]? = some (.cells cur t (0, 0))) (hi : (P.info? ty).map (·.size) = some cs.size) (hfit : i + cs.size ≤ cur.size) (h1 : cs.all (·.oneCell') = true)
    (hnew : (cur.toList.take i ++ cs.toList ++ cur.toList.drop (i + cs.size)).toArray = new)
    (h : wpList P ops Q rest (a.put o.dst undef) (w.setRow g new)) : wpList P ops Q (o :: rest) a w :=
  wpList_step fun _ hK => by
    rw [if_pos hgd]
    unfold Oper.wp execOp
    simp only [ho, hx, hy, Sem.run_bind, Sem.run_pure, Result.andThen_ok, run_storeAt_part w g i t ty cur new cs hg hi hfit h1 hnew]
    exact hK _ _ h
theorem wp_store_into {P : Program} {o : Oper} {a : Act} {w : World} {K : Act → World → Prop} {Q : Exit → Act → World → Prop} (ty : TypeId) (x y : Operand) (ho : o.op = .store ty x y)
    (g i : Nat) (v : Value) (hx : a.eval x = .pointer (some ⟨g, i, none⟩)) (hy : a.eval y = v) (h1 : v.oneCell' = true)
    (t : TypeId) (cur new : Array Value) (hg : w.heap[g]? = some (.cells cur t (0, 0))) (hi : (P.info? ty).map (·.size) = some 1) (hlt : i < cur.size) (hnew : cur.setIfInBounds i v = new)
    (h : K (a.put o.dst undef) (w.setRow g new)) : Oper.wp P o a w K Q := by
  unfold Oper.wp execOp
  simp only [ho, hx, hy, Sem.run_bind, Sem.run_pure, Result.andThen_ok, run_storeAt_into w g i t ty cur new v hg hi hlt h1 hnew]
  exact h
theorem sizeI64 : (Tryd.prog.info? 3).map (·.size) = some 1 := by kernel_rfl
theorem sizeBool : (Tryd.prog.info? 4).map (·.size) = some 1 := by kernel_rfl
/-- a literal slice of bytes as a row. -/
theorem lit_row (w : World) (ys : List Int) (t : TypeId) (hy : ∀ v ∈ ys, 0 ≤ v ∧ v ≤ 255) (hl : ys.length ≤ maxLen) : RowB .u8 (w.alloc (.cells (ys.map (Value.int .u8)).toArray t)) (some ⟨w.heap.size, 0, none⟩) ys.length ys := by
  refine ⟨rfl, hl, fun i hi => ?_, fun hp => ⟨_, _, rfl, fun i hi => ?_⟩⟩
  · have := hy _ (mem_getD hi)
    simpa [IntKind.min, IntKind.max, IntKind.signed, IntKind.bits] using this
  · have := src_new w ys t i (.int .u8 (ys.getD i 0)) (by simp [List.getD, hi])
    rwa [Addr.add_mid] at this
theorem below_at {w w1 : World} {a : Addr} {v : Value} (hb : Below w.heap.size w w1) (h : w.cell? a = some v) : w1.cell? a = some v := (hb.cell (cell_lt' h)).trans h
end Go.Proofs.YtjgingfcfmpfaaaDoor
