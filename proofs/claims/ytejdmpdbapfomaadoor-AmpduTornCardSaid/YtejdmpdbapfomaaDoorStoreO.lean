/-
  A NUMBER STORED INTO A ROW OF THE CALL's OWN, as the walk meets it; no program is named.
-/
import Derived.Test.YtejdmpdbapfomaaDoorBase
namespace Go.Proofs.YtejdmpdbapfomaaDoor
open Go.ChangeShapes Go.WideShapes Go.ChangeAt Go.RowKit
set_option linter.unusedVariables false
set_option linter.unusedSimpArgs false

theorem run_storeAt_cell {P : Program} (w : World) (g j : Nat) (ty : TypeId) (v0 v : Value) (hcell : w.cell? ⟨g, j, none⟩ = some v0) (hfro : w.frozen? ⟨g, j, none⟩ = false) (hi : (P.info? ty).map (·.size) = some 1) (h1 : v.oneCell' = true) :
    (Instr.storeAt ty (.pointer (some ⟨g, j, none⟩)) v).run P w = .ok () (w.setCell ⟨g, j, none⟩ v) := by
  have hc : v.cells = #[v] := by cases v <;> first | rfl | cases h1
  have hst : (store ⟨g, j, none⟩ v).run P w = .ok () (w.setCell ⟨g, j, none⟩ v) := by
    rw [run_store P w _ v _ h1, hcell]
    simp [hfro]
  have hadd : (⟨g, j, none⟩ : Addr).add 0 = ⟨g, j, none⟩ := by unfold Addr.add; split <;> simp_all
  cases hq : P.info? ty with
  | none => simp [hq] at hi
  | some inf =>
    have hs : inf.size = 1 := by simpa [hq] using hi
    simp [Instr.storeAt, Instr.sureAddr, storeVar, sizeOf, typeInfo, hq, hc, hs, storeCells, hadd, hst, Result.andThen]
theorem wpList_store_own {P : Program} {ops : Array Oper} {rest : List Oper} {o : Oper} {a : Act} {w : World} {Q : Exit → Act → World → Prop} (hgd : Region.wanted o (yielded ops a.tmps) = true) (ty : TypeId) (x y : Operand) (ho : o.op = .store ty x y)
    (B : Nat) (T : TypeId) (k : IntKind) (g j n cap : Nat) (xs ys : List Int) (v : Int) (hx : a.eval x = .pointer (some ⟨g, j, none⟩)) (hy : a.eval y = .int k v) (hO : OwnB w B T k g n cap xs) (hj : j < n) (hi : (P.info? ty).map (·.size) = some 1) (hset : xs.set j v = ys)
    (h : ∀ w', Hid (OwnB w' B T k g n cap ys) → Hid (∀ b, b ≠ g → w'.heap[b]? = w.heap[b]?) → Hid (∀ B0 w0, Below B0 w0 w → B0 ≤ g → Below B0 w0 w') → wpList P ops Q rest (a.put o.dst undef) w') : wpList P ops Q (o :: rest) a w :=
  wpList_step fun _ hK => by
    rw [if_pos hgd]
    unfold Oper.wp execOp
    simp only [ho, hx, hy, Sem.run_bind, Sem.run_pure, Result.andThen_ok, run_storeAt_cell w g j ty _ (.int k v) (hO.cell j hj) (hO.frozen j) hi rfl]
    subst hset
    exact hK _ _ (h _ (hO.set j v) (fun b hb => heap_setCell_other w ⟨g, j, none⟩ b _ (fun e => hb (by simpa using e))) (fun B0 w0 hb hB => hb.setCell (p := ⟨g, j, none⟩) hB _))
theorem map_range_set (F G : Nat → Int) (m d : Nat) (v : Int) (hd : d < m) (hv : G d = v) (ho : ∀ i, i < m → i ≠ d → G i = F i) : ((List.range m).map F).set d v = (List.range m).map G := by
  apply List.ext_getElem
  · simp
  · intro i h1 h2
    have hi : i < m := by simpa using h2
    rw [List.getElem_set]
    split
    · rename_i h; subst h; simp [hv]
    · rename_i h; simp [ho i hi (fun e => h e.symm)]
end Go.Proofs.YtejdmpdbapfomaaDoor
