/-
  WHAT A WALK IS TOLD OF A SLICE OF INTEGERS THAT CAME IN, and what follows of its elements. No program is named.
-/
import Derived.Test.YtndkmgcmegcieaaGreatDoorRows
import Derived.WalkKit
import Derived.ProofKit
import Derived.OpenShut
import Derived.ShutString
import Derived.ChangeOld
import Derived.Below
import Derived.Lib.Hide
import Derived.BigQuiet
import Derived.Deep.QuietTactic
import Derived.OwnWalk
import Derived.Outline
import Derived.Laws.Rows
import Derived.Laws.Tables
import Derived.Laws.Cells
import Derived.Deep.MidRow
import Derived.Deep.WholeRow
import Derived.Lib.QuietBelow
import Derived.IntWalk
import Derived.LoopTactic
import Derived.Deep.Slices
import Derived.Deep.AppendLies
import Derived.Laws.OwnMore
import Derived.Laws.CopyOwn
import Derived.Deep.RegionHeld
namespace Go.Proofs.YtndkmgcmegcieaaGreatDoor
open Go.ChangeShapes Go.WideShapes Go.ChangeAt Go.RowKit
set_option linter.unusedVariables false
def IsRow (k : IntKind) (w : World) (a : Option Addr) (len cap : Nat) (zs : List Int) : Prop :=
 (a = none ∧ len = 0 ∧ cap = 0 ∧ zs = []) ∨
 ∃ x, a = some x ∧ len ≤ cap ∧ cap ≤ maxLen ∧ zs.length = cap ∧ (∀ i, i < zs.length → w.cell? (x.add i) = some (.int k (zs.getD i 0))) ∧ ∀ n ∈ zs, (Lit.int k n).wf = true
theorem IsRow.len_le {k w a len cap zs} (h : IsRow k w a len cap zs) : len ≤ maxLen := by
 rcases h with ⟨rfl, rfl, rfl, rfl⟩ | ⟨x, rfl, hl, hm, hz, hcell, hwz⟩ <;> omega
theorem IsRow.len_cap {k w a len cap zs} (h : IsRow k w a len cap zs) : len ≤ cap ∧ zs.length = cap := by
 rcases h with ⟨rfl, rfl, rfl, rfl⟩ | ⟨x, rfl, hl, hm, hz, hcell, hwz⟩
 ·exact ⟨Nat.le_refl _, rfl⟩
 ·exact ⟨hl, hz⟩
theorem mem_getD {zs : List Int} {i : Nat} (h : i < zs.length) : zs.getD i 0 ∈ zs := by
 have : zs.getD i 0 = zs[i] := by simp [List.getD, h]
 rw [this]; exact List.getElem_mem h
theorem IsRow.el {k w a len cap zs} (h : IsRow k w a len cap zs) (i : Nat) (hi : i < len) :
 ∃ b off, a = some ⟨b, off, none⟩ ∧ w.cell? ⟨b, off + i, none⟩ = some (.int k (zs.getD i 0)) ∧ (Lit.int k (zs.getD i 0)).wf = true := by
 rcases h with ⟨rfl, rfl, rfl, rfl⟩ | ⟨x, rfl, hl, hm, hz, hcell, hwz⟩
 ·omega
 ·obtain ⟨b, off, spot⟩ := x
  have hc := hcell 0 (by omega)
  have hspot : spot = none := by simpa [Addr.add] using World.cell?_spot hc
  subst hspot
  refine ⟨b, off, rfl, ?_, hwz _ (mem_getD (by omega))⟩
  have h2 := hcell i (by omega)
  by_cases h0 : i = 0
  ·subst h0; simpa [Addr.add] using h2
  ·simpa [Addr.add, h0] using h2
theorem IsRow.els {k w a len cap zs} (h : IsRow k w a len cap zs) (hp : 0 < len) :
 ∃ b off, a = some ⟨b, off, none⟩ ∧ ∀ i, i < len → w.cell? ⟨b, off + i, none⟩ = some (.int k (zs.getD i 0)) ∧ (Lit.int k (zs.getD i 0)).wf = true := by
 obtain ⟨b, off, rfl, _, _⟩ := h.el 0 hp
 refine ⟨b, off, rfl, fun i hi => ?_⟩
 obtain ⟨b', off', e, h1, h2⟩ := h.el i hi
 cases e
 exact ⟨h1, h2⟩
end Go.Proofs.YtndkmgcmegcieaaGreatDoor
/-
  A ROW OF BYTES (or other integers of one kind) AS A LIST, nil let in: 'RowB k w A n xs': the slice value '.slice A n c' holds the numbers xs. No program is named.
-/
namespace Go.Proofs.YtndkmgcmegcieaaGreatDoor
open Go.ChangeShapes Go.WideShapes Go.ChangeAt Go.RowKit
set_option linter.unusedVariables false
structure RowB (k : IntKind) (w : World) (A : Option Addr) (n : Nat) (xs : List Int) : Prop where
 len : xs.length = n
 le : n ≤ maxLen
 wf : ∀ i, i < n → k.min ≤ xs.getD i 0 ∧ xs.getD i 0 ≤ k.max
 cells : 0 < n → ∃ b off, A = some ⟨b, off, none⟩ ∧ ∀ i, i < n → w.cell? ⟨b, off + i, none⟩ = some (.int k (xs.getD i 0))
theorem wf_range {k : IntKind} {n : Int} (h : (Lit.int k n).wf = true) : k.min ≤ n ∧ n ≤ k.max := by
 simpa [Lit.wf] using h
theorem RowB.of_row {k w a len cap zs} (h : IsRow k w a len cap zs) : RowB k w a len (zs.take len) := by
 have hl := h.len_cap
 refine ⟨by simp; omega, h.len_le, fun i hi => ?_, fun hp => ?_⟩
 ·obtain ⟨b, off, _, _, hw⟩ := h.el i hi
  have : (zs.take len).getD i 0 = zs.getD i 0 := by simp [List.getD, hi]
  rw [this]; exact wf_range hw
 ·obtain ⟨b, off, rfl, h1⟩ := h.els hp
  refine ⟨b, off, rfl, fun i hi => ?_⟩
  have : (zs.take len).getD i 0 = zs.getD i 0 := by simp [List.getD, hi]
  rw [this]; exact (h1 i hi).1
theorem RowB.el {k w A n xs} (h : RowB k w A n xs) (i : Nat) (hi : i < n) : ∃ b off, A = some ⟨b, off, none⟩ ∧ w.cell? ⟨b, off + i, none⟩ = some (.int k (xs.getD i 0)) := by
 obtain ⟨b, off, e, h1⟩ := h.cells (by omega)
 exact ⟨b, off, e, h1 i hi⟩
theorem cell_lt' {w : World} {p : Addr} {v : Value} (h : w.cell? p = some v) : p.block < w.heap.size := by
 by_cases hp : p.block < w.heap.size
 ·exact hp
 ·simp [World.cell?, Array.getElem?_eq_none (Nat.le_of_not_lt hp)] at h
theorem RowB.below {k w w' A n xs} (h : RowB k w A n xs) (hb : Below w.heap.size w w') : RowB k w' A n xs :=
 ⟨h.len, h.le, h.wf, fun hp => by
   obtain ⟨b, off, e, h1⟩ := h.cells hp
   exact ⟨b, off, e, fun i hi => (hb.cell (cell_lt' (h1 i hi))).trans (h1 i hi)⟩⟩
theorem RowB.drewN {k w A n xs} (h : RowB k w A n xs) (m : Nat) : RowB k (w.drewN m) A n xs := ⟨h.len, h.le, h.wf, h.cells⟩
theorem RowB.first {k w A n xs} (h : RowB k w A n xs) (m : Nat) (hm : m ≤ n) : RowB k w A m (xs.take m) := by
 have hl := h.len
 have e : ∀ i, i < m → (xs.take m).getD i 0 = xs.getD i 0 := fun i hi => by simp [List.getD, hi]
 refine ⟨by simp; omega, Nat.le_trans hm h.le, fun i hi => ?_, fun hp => ?_⟩
 ·rw [e i hi]; exact h.wf i (by omega)
 ·obtain ⟨b, off, rfl, h1⟩ := h.cells (by omega)
  exact ⟨b, off, rfl, fun i hi => by rw [e i hi]; exact h1 i (by omega)⟩
theorem RowB.wf8 {w A n xs} (h : RowB .u8 w A n xs) (i : Nat) (hi : i < n) : 0 ≤ xs.getD i 0 ∧ xs.getD i 0 ≤ 255 := by
 have := h.wf i hi
 simpa [IntKind.min, IntKind.max, IntKind.signed, IntKind.bits] using this
theorem RowB.nil {k w A} : RowB k w A 0 [] := ⟨rfl, by unfold maxLen; omega, fun i hi => by omega, fun h => by omega⟩
end Go.Proofs.YtndkmgcmegcieaaGreatDoor
/-
  CONTRACT of muezzinworld.Number.
-/
namespace Go.Proofs.YtndkmgcmegcieaaGreatDoor
open Go.ChangeShapes Go.WideShapes Go.ChangeAt Go.RowKit
set_option linter.unusedVariables false
theorem ret_int {k : IntKind} {a b : Int} (h : a = b) : Ending.returned (.int k a) = .returned (.int k b) := by rw [h]
theorem tmod_low (n b : Int) (h0 : 0 < b) (h1 : b < 1099511627776) (h : n.tmod b < 0) : wrap64 (n.tmod b + b) = n % b := by
 have e := Int.tmod_eq_emod (a := n) (b := b)
 have a1 := Int.emod_nonneg n (show b ≠ 0 by omega)
 have a2 := Int.emod_lt_of_pos n h0
 unfold wrap64
 split at e
 ·omega
 ·have : (b.natAbs : Int) = b := by omega
  omega
theorem tmod_high (n b : Int) (h0 : 0 < b) (h : 0 ≤ n.tmod b) : n.tmod b = n % b := by
 have e := Int.tmod_eq_emod (a := n) (b := b)
 have a2 := Int.emod_lt_of_pos n h0
 split at e
 ·omega
 ·have : (b.natAbs : Int) = b := by omega
  omega
def nmod (n b : Int) : Int := n % b
theorem nmod_lo (n b : Int) (h : 0 < b) : 0 ≤ nmod n b := Int.emod_nonneg _ (by omega)
theorem nmod_hi (n b : Int) (h : 0 < b) : nmod n b < b := Int.emod_lt_of_pos _ h
theorem number_any (n below : Int) (w : World) (hn : (Lit.int .i64 n).wf = true) (h0 : 0 < below) (h1 : below < 1099511627776) :
 Calls Tryz.prog 13 #[.int .i64 n, .int .i64 below] w fun e w' => e = .returned (.int .i64 (nmod n below)) ∧ w = w' := by
 have hn' : -9223372036854775808 ≤ n ∧ n ≤ 9223372036854775807 := by simpa [Lit.wf, IntKind.min, IntKind.max, IntKind.signed, IntKind.bits] using hn
 by_cases h : n.tmod below < 0
 ·have H := Lib.hid (tmod_low n below h0 h1 h)
  go_enter Tryz.func13, Tryz.ntmps13
  go_wp2
  go_ret
  exact ⟨ret_int H.out, rfl⟩
 ·have H := Lib.hid (tmod_high n below h0 (by omega))
  go_enter Tryz.func13, Tryz.ntmps13
  go_wp2
  go_ret
  exact ⟨ret_int H.out, rfl⟩
end Go.Proofs.YtndkmgcmegcieaaGreatDoor
/-
  WHAT A LAYER OF NUMBERS AND STRUCTS WANTS: whole structs out of a block; a region that draws its order and whose callees make memory of their own; small equations. No address, no error, no byte is named.
-/
namespace Go.Proofs.YtndkmgcmegcieaaGreatDoor
open Go.ChangeShapes Go.WideShapes Go.ChangeAt Go.RowKit
set_option linter.unusedVariables false
set_option linter.unusedSimpArgs false
theorem ret_b {a b : Bool} (h : b = a) : Ending.returned (.bool a) = .returned (.bool b) := by rw [h]
theorem below_drewN {B : Nat} {a w : World} (h : Below B a w) (n : Nat) : Below B a (w.drewN n) := ⟨h.os, h.tape, h.output, h.size, h.block⟩
theorem lt_blk {w : World} {g : Nat} {o : Obj} (h : w.heap[g]? = some o) : g < w.heap.size := by
 by_cases hp : g < w.heap.size
 ·exact hp
 ·rw [Array.getElem?_eq_none (Nat.le_of_not_lt hp)] at h; cases h
theorem below_at {w w1 : World} {a : Addr} {v : Value} (hb : Below w.heap.size w w1) (h : w.cell? a = some v) : w1.cell? a = some v := (hb.cell (cell_lt' h)).trans h
theorem sizeI64 : (Tryz.prog.info? 3).map (·.size) = some 1 := by kernel_rfl
theorem results_cell1 {P : Program} {fn : Func} {p : Tmp} {ty : TypeId} (h : fn.results = #[.cell p ty]) (tmps : Array Value) (w : World) (g : Nat) (t : TypeId) (cs : Array Value) (fr : Nat × Nat) (d : TypeDesc)
 (hp : tmps.getD p undef = .pointer (some ⟨g, 0, none⟩)) (hg : w.heap[g]? = some (.cells cs t fr))
 (hu : P.underlying ty = some d) (hd : (match d with | .struct _ | .array _ _ => true | _ => false) = true) (hi : (P.info? ty).map (·.size) = some cs.size) :
 (results fn tmps).run P w = .ok (.agg cs) w := by
 have hp' : tmps[p]?.getD undef = .pointer (some ⟨g, 0, none⟩) := by simpa using hp
 simp [results, h, hp', asAddr, run_loadVar_row w g t ty cs fr d hg hu hd hi]
theorem wpList_load_if {P : Program} {ops : Array Oper} {rest : List Oper} {o : Oper} {a : Act} {w : World} {Q : Exit → Act → World → Prop} (hgd : Region.wanted o (yielded ops a.tmps) = true) (ty : TypeId) (x : Operand) (ho : o.op = .load ty x)
 (g : Nat) (hx : a.eval x = .pointer (some ⟨g, 0, none⟩)) (t : TypeId) (cs : Array Value) (fr : Nat × Nat) (d : TypeDesc) (hg : w.heap[g]? = some (.cells cs t fr))
 (hu : P.underlying ty = some d) (hd : (match d with | .struct _ | .array _ _ => true | _ => false) = true) (hi : (P.info? ty).map (·.size) = some cs.size)
 (h : wpList P ops Q rest (a.put o.dst (.agg cs)) w) : wpList P ops Q (o :: rest) a w :=
 wpList_step fun _ hK => by
  rw [if_pos hgd]
  exact wp_load_row ty x ho g hx t cs fr d hg hu hd hi (hK _ _ h)
theorem block_range {w : World} {g : Nat} {cs : Array Value} {t : TypeId} {fr : Nat × Nat} (h : w.heap[g]? = some (.cells cs t fr)) : w.rangeAt g 0 cs.toList := by
 intro j v hv
 simp only [World.cell?, h, Nat.zero_add]
 simpa using hv
theorem alloc_old {w : World} {a : Addr} {v : Value} (h : w.cell? a = some v) (o : Obj) : (w.alloc o).cell? a = some v := by
 rw [World.cell?_alloc_lt _ _ _ (cell_lt' h)]; exact h
end Go.Proofs.YtndkmgcmegcieaaGreatDoor
/-
  ONE FIELD OF A STRUCT STORED INTO A BLOCK THAT IS KNOWN WHOLE. No program is named.
-/
namespace Go.Proofs.YtndkmgcmegcieaaGreatDoor
open Go.ChangeShapes Go.WideShapes Go.ChangeAt Go.RowKit
set_option linter.unusedVariables false
set_option linter.unusedSimpArgs false
theorem run_storeAt_into {P : Program} (w : World) (g i : Nat) (t ty : TypeId) (cur new : Array Value) (v : Value) (hg : w.heap[g]? = some (.cells cur t (0, 0))) (hi : (P.info? ty).map (·.size) = some 1) (hlt : i < cur.size) (h1 : v.oneCell' = true) (hnew : cur.setIfInBounds i v = new) :
 (Instr.storeAt ty (.pointer (some ⟨g, i, none⟩)) v).run P w = .ok () (w.setRow g new) := by
 subst hnew
 have hc : v.cells = #[v] := by cases v <;> first | rfl | cases h1
 have hcell : w.cell? ⟨g, i, none⟩ = some cur[i] := by simp [World.cell?, hg, hlt]
 have hfro : w.frozen? ⟨g, i, none⟩ = false := by simp [World.frozen?, hg]
 have hst : (store ⟨g, i, none⟩ v).run P w = .ok () (w.setRow g (cur.setIfInBounds i v)) := by
  rw [run_store P w _ v _ h1, hcell]
  simp [hfro, setCell_eq_setRow w g i cur t (0, 0) v hg]
 have hadd : (⟨g, i, none⟩ : Addr).add 0 = ⟨g, i, none⟩ := by unfold Addr.add; split <;> simp_all
 cases hq : P.info? ty with
 | none => simp [hq] at hi
 | some inf =>
  have hs : inf.size = 1 := by simpa [hq] using hi
  simp [Instr.storeAt, Instr.sureAddr, storeVar, sizeOf, typeInfo, hq, hc, hs, storeCells, hadd, hst, Result.andThen]
theorem wpList_store_into {P : Program} {ops : Array Oper} {rest : List Oper} {o : Oper} {a : Act} {w : World} {Q : Exit → Act → World → Prop} (hgd : Region.wanted o (yielded ops a.tmps) = true) (ty : TypeId) (x y : Operand) (ho : o.op = .store ty x y)
 (g i : Nat) (v : Value) (hx : a.eval x = .pointer (some ⟨g, i, none⟩)) (hy : a.eval y = v) (h1 : v.oneCell' = true)
 (t : TypeId) (cur new : Array Value) (hg : w.heap[g]? = some (.cells cur t (0, 0))) (hi : (P.info? ty).map (·.size) = some 1) (hlt : i < cur.size) (hnew : cur.setIfInBounds i v = new)
 (h : wpList P ops Q rest (a.put o.dst undef) (w.setRow g new)) : wpList P ops Q (o :: rest) a w :=
 wpList_step fun _ hK => by
  rw [if_pos hgd]
  unfold Oper.wp execOp
  simp only [ho, hx, hy, Sem.run_bind, Sem.run_pure, Result.andThen_ok, run_storeAt_into w g i t ty cur new v hg hi hlt h1 hnew]
  exact hK _ _ h
end Go.Proofs.YtndkmgcmegcieaaGreatDoor
/-
  A ROW OF STRUCTS AS A LIST: F says of each one its cells, sz of them: one that is known; one of the call's own that grows by append. No program is named.
-/
namespace Go.Proofs.YtndkmgcmegcieaaGreatDoor
open Go.ChangeShapes Go.WideShapes Go.ChangeAt Go.RowKit Go.Deep
set_option linter.unusedVariables false
set_option linter.unusedSimpArgs false
structure RowS {α : Type} (F : α → List Value) (sz : Nat) (d : α) (w : World) (A : Option Addr) (n : Nat) (l : List α) : Prop where
 len : l.length = n
 le : n ≤ maxLen
 els : 0 < n → ∃ b off, A = some ⟨b, off, none⟩ ∧ ∀ i, i < n → w.rangeAt b (off + i * sz) (F (l.getD i d))
def OwnS {α : Type} (F : α → List Value) (sz : Nat) (w : World) (base : Nat) (e : TypeId) (v : Value) (n : Nat) (l : List α) : Prop := w.ownsRow base e sz v n (l.flatMap F) ∧ l.length = n
theorem range_below {B : Nat} {w w' : World} {b o : Nat} {cs : List Value} (h : w.rangeAt b o cs) (hb : Below w.heap.size w w') : w'.rangeAt b o cs :=
 fun j v hv => (hb.cell (cell_lt' (h j v hv))).trans (h j v hv)
section
variable {α : Type} {F : α → List Value} {sz : Nat} {d : α} {w w' : World} {A : Option Addr} {n : Nat} {l : List α}
theorem RowS.nil : RowS F sz d w A 0 [] := ⟨rfl, by unfold maxLen; omega, fun h => by omega⟩
theorem RowS.el (h : RowS F sz d w A n l) (i : Nat) (hi : i < n) : ∃ b off, A = some ⟨b, off, none⟩ ∧ w.rangeAt b (off + i * sz) (F (l.getD i d)) := by
 obtain ⟨b, off, e, h1⟩ := h.els (by omega)
 exact ⟨b, off, e, h1 i hi⟩
theorem RowS.below (h : RowS F sz d w A n l) (hb : Below w.heap.size w w') : RowS F sz d w' A n l :=
 ⟨h.len, h.le, fun hp => by
   obtain ⟨b, off, e, h1⟩ := h.els hp
   exact ⟨b, off, e, fun i hi => range_below (B := w.heap.size) (h1 i hi) hb⟩⟩
theorem RowS.drewN (h : RowS F sz d w A n l) (m : Nat) : RowS F sz d (w.drewN m) A n l := ⟨h.len, h.le, h.els⟩
theorem RowS.first (h : RowS F sz d w A n l) (m : Nat) (hm : m ≤ n) : RowS F sz d w A m (l.take m) := by
 have hl := h.len
 refine ⟨by simp; omega, Nat.le_trans hm h.le, fun hp => ?_⟩
 obtain ⟨b, off, e, h1⟩ := h.els (by omega)
 refine ⟨b, off, e, fun i hi => ?_⟩
 have hg : (l.take m).getD i d = l.getD i d := by simp [List.getD, hi]
 rw [hg]
 exact h1 i (by omega)
theorem flat_at (hF : ∀ a, (F a).length = sz) : ∀ (l : List α) (i j : Nat), i < l.length → j < sz → (l.flatMap F)[i * sz + j]? = (F (l.getD i d))[j]?
 | [], i, j, hi, hj => by simp at hi
 | a :: r, 0, j, hi, hj => by
  rw [List.flatMap_cons, Nat.zero_mul, Nat.zero_add, List.getElem?_append_left (by rw [hF]; exact hj)]
  rfl
 | a :: r, i + 1, j, hi, hj => by
  have h1 := flat_at hF r i j (by simpa using hi) hj
  rw [List.flatMap_cons, List.getElem?_append_right (by rw [hF, Nat.succ_mul]; omega), hF, show (i + 1) * sz + j - sz = i * sz + j by rw [Nat.succ_mul]; omega, h1]
  rfl
theorem OwnS.nil (w : World) (base : Nat) (e : TypeId) : OwnS F sz w base e (.slice none 0 0) 0 [] := ⟨World.ownsRow_nil w base e sz, rfl⟩
theorem OwnS.below {base : Nat} {e : TypeId} {v : Value} (h : OwnS F sz w base e v n l) (hb : Below w.heap.size w w') : OwnS F sz w' base e v n l := by
 refine ⟨⟨h.1.1, ?_⟩, h.2⟩
 rcases h.1.2 with hn | ⟨g, cap, cur, hv, hb', hg, rest⟩
 ·exact .inl hn
 ·refine .inr ⟨g, cap, cur, hv, hb', (hb.block g ?_).trans hg, rest⟩
  by_cases hp : g < w.heap.size
  ·exact hp
  ·rw [Array.getElem?_eq_none (Nat.le_of_not_lt hp)] at hg; cases hg
theorem OwnS.drewN {base : Nat} {e : TypeId} {v : Value} (h : OwnS F sz w base e v n l) (m : Nat) : OwnS F sz (w.drewN m) base e v n l := h.below (below_drewN (Below.refl _ _) m)
theorem OwnS.row {base : Nat} {e : TypeId} {v : Value} (h : OwnS F sz w base e v n l) (hF : ∀ a, (F a).length = sz) (hn : n ≤ maxLen) : ∃ A c, v = .slice A n c ∧ RowS F sz d w A n l ∧ n ≤ c := by
 obtain ⟨ho, hl⟩ := h
 rcases ho.2 with ⟨rfl, h0⟩ | ⟨g, cap, cur, rfl, hb, hg, hnc, hc, hs, ht⟩
 ·subst h0
  exact ⟨none, 0, rfl, ⟨hl, hn, fun h => by omega⟩, Nat.le_refl _⟩
 ·refine ⟨some ⟨g, 0, none⟩, cap, rfl, ⟨hl, hn, fun hp => ⟨g, 0, rfl, fun i hi j v hv => ?_⟩⟩, hnc⟩
  have hj : j < sz := by
   have h1 := (List.getElem?_eq_some_iff.1 hv).1
   rw [hF] at h1
   exact h1
  have hlt : i * sz + j < n * sz := by
   have h1 : (i + 1) * sz ≤ n * sz := Nat.mul_le_mul_right _ hi
   rw [Nat.succ_mul] at h1
   omega
  rw [Nat.zero_add, World.ownsRow.cellAt ho (i * sz + j) hlt, flat_at (d := d) hF l i j (by omega) hj]
  exact hv
end
end Go.Proofs.YtndkmgcmegcieaaGreatDoor
/-
  FOOTPRINTS: what a call may turn is a set of blocks, and what is new: for objects that live on (two queues side by side). No program is named.
-/
namespace Go.Proofs.YtndkmgcmegcieaaGreatDoor
open Go.ChangeShapes Go.WideShapes Go.ChangeAt Go.RowKit
set_option linter.unusedVariables false
set_option linter.unusedSimpArgs false
structure Only (S : Nat → Prop) (w w' : World) : Prop where
 os : w'.os = w.os
 tape : w'.tape = w.tape
 output : w'.output = w.output
 size : w.heap.size ≤ w'.heap.size
 block : ∀ k, k < w.heap.size → ¬ S k → w'.heap[k]? = w.heap[k]?
section
variable {S T : Nat → Prop} {a b c w w' : World}
theorem Only.refl (S : Nat → Prop) (w : World) : Only S w w := ⟨rfl, rfl, rfl, Nat.le_refl _, fun _ _ _ => rfl⟩
theorem Only.trans (h : Only S a b) (k : Only T b c) (ht : ∀ i, i < a.heap.size → T i → S i) : Only S a c :=
 ⟨k.os.trans h.os, k.tape.trans h.tape, k.output.trans h.output, Nat.le_trans h.size k.size, fun i hi hn =>
   (k.block i (Nat.lt_of_lt_of_le hi h.size) fun e => hn (ht i hi e)).trans (h.block i hi hn)⟩
theorem Only.mono (h : Only S w w') (hs : ∀ i, i < w.heap.size → S i → T i) : Only T w w' :=
 ⟨h.os, h.tape, h.output, h.size, fun i hi hn => h.block i hi fun e => hn (hs i hi e)⟩
theorem Only.drew (h : Only S a w) (n : Nat) : Only S a (w.drewN n) := ⟨h.os, h.tape, h.output, h.size, h.block⟩
theorem Only.of_below {B : Nat} (h : Below B w w') (hs : ∀ i, i < w.heap.size → B ≤ i → S i) : Only S w w' :=
 ⟨h.os, h.tape, h.output, h.size, fun i hi hn => h.block i (by
   by_cases e : i < B
   ·exact e
   ·exact absurd (hs i hi (by omega)) hn)⟩
theorem Only.of_quiet (h : Below w.heap.size w w') : Only S w w' := Only.of_below h fun i hi he => by omega
theorem Only.below {B : Nat} (h : Only S w w') (hs : ∀ i, i < B → ¬ S i) (hB : B ≤ w.heap.size) : Below B w w' :=
 ⟨h.os, h.tape, h.output, h.size, fun i hi => h.block i (by omega) (hs i hi)⟩
theorem Only.then_quiet (h : Only S a w) (k : Below w.heap.size w w') : Only S a w' := h.trans (T := fun _ => False) (Only.of_quiet k) fun _ _ e => e.elim
theorem Only.alloc (h : Only S a w) (o : Obj) : Only S a (w.alloc o) := h.then_quiet ((Below.refl w.heap.size w).alloc (Nat.le_refl _) o)
theorem Only.setRow (h : Only S a w) {g : Nat} (hg : g < a.heap.size → S g) (cs : Array Value) : Only S a (w.setRow g cs) :=
 h.trans (T := fun k => k = g) ⟨rfl, rfl, rfl, by simp [World.setRow], fun k _ hn => setRow_other w g k cs hn⟩ (fun i hi e => by subst e; exact hg hi)
theorem Only.setCell (h : Only S a w) {p : Addr} (hg : p.block < a.heap.size → S p.block) (u : Value) : Only S a (w.setCell p u) :=
 h.trans (T := fun k => k = p.block) ⟨rfl, rfl, rfl, by simp [World.setCell], fun k _ hn => Below.heap_setCell _ _ _ _ hn⟩ (fun i hi e => by subst e; exact hg hi)
theorem Only.grown {row : Option Nat} (h : Only S a w) (hg : w.grownBy w' row) (hr : ∀ k, row = some k → k < a.heap.size → S k) : Only S a w' :=
 h.trans (T := fun k => row = some k) ⟨hg.os, hg.tape, hg.output, hg.size, fun k hk hn => hg.block k hk fun e => hn e.symm⟩ (fun i hi e => hr i e hi)
theorem Only.at_ (h : Only S w w') {g : Nat} {o : Obj} (hg : w.heap[g]? = some o) (hn : ¬ S g) : w'.heap[g]? = some o := (h.block g (lt_blk hg) hn).trans hg
theorem Only.cell (h : Only S w w') {p : Addr} {v : Value} (hp : w.cell? p = some v) (hn : ¬ S p.block) : w'.cell? p = some v := by
 have hlt := cell_lt' hp
 have := World.cell?_of_block (w := w) (w' := w') (a := p) (h.block _ hlt hn)
 rw [this]; exact hp
theorem Only.range (h : Only S w w') {g o : Nat} {cs : List Value} (hr : w.rangeAt g o cs) (hn : ¬ S g) : w'.rangeAt g o cs := fun j v hv => h.cell (hr j v hv) hn
theorem RowB.only {k : IntKind} {A : Option Addr} {n : Nat} {xs : List Int} (h : RowB k w A n xs) (ho : Only S w w') (hn : ∀ p, A = some p → ¬ S p.block) : RowB k w' A n xs :=
 ⟨h.len, h.le, h.wf, fun hp => by
   obtain ⟨b, off, e, h1⟩ := h.cells hp
   have hb : ¬ S b := hn _ e
   exact ⟨b, off, e, fun i hi => ho.cell (h1 i hi) hb⟩⟩
theorem RowS.only {α : Type} {F : α → List Value} {sz : Nat} {d : α} {A : Option Addr} {n : Nat} {l : List α} (h : RowS F sz d w A n l) (ho : Only S w w') (hn : ∀ p, A = some p → ¬ S p.block) : RowS F sz d w' A n l :=
 ⟨h.len, h.le, fun hp => by
   obtain ⟨b, off, e, h1⟩ := h.els hp
   have hb : ¬ S b := hn _ e
   exact ⟨b, off, e, fun i hi => ho.range (h1 i hi) hb⟩⟩
theorem owns_only {base : Nat} {e : TypeId} {size n : Nat} {v : Value} {xs : List Value} (h : w.ownsRow base e size v n xs) (ho : Only S w w') (hn : ∀ g, v.ownBlock = some g → ¬ S g) : w'.ownsRow base e size v n xs := by
 refine ⟨h.1, ?_⟩
 rcases h.2 with h0 | ⟨g, cap, cur, hv, hb, hg, rest⟩
 ·exact .inl h0
 ·refine .inr ⟨g, cap, cur, hv, hb, ho.at_ hg (hn g ?_), rest⟩
  rw [hv]; rfl
end
def Fresh (w : World) (S S' : Nat → Prop) : Prop := ∀ k, S' k → S k ∨ w.heap.size ≤ k
def There (w : World) (S : Nat → Prop) : Prop := ∀ k, S k → k < w.heap.size
def Apart (S T : Nat → Prop) : Prop := ∀ k, S k → ¬ T k
theorem Apart.symm {S T : Nat → Prop} (h : Apart S T) : Apart T S := fun k ht hs => h k hs ht
theorem Apart.fresh {w : World} {S S' T : Nat → Prop} (h : Apart S T) (hf : Fresh w S S') (ht : There w T) : Apart S' T := fun k hs hk => by
 rcases hf k hs with h1 | h1
 ·exact h k h1 hk
 ·have := ht k hk; omega
theorem There.only {S T : Nat → Prop} {w w' : World} (h : There w T) (ho : Only S w w') : There w' T := fun k hk => Nat.lt_of_lt_of_le (h k hk) ho.size
theorem Fresh.refl (w : World) (S : Nat → Prop) : Fresh w S S := fun k h => .inl h
theorem Fresh.trans {S T U : Nat → Prop} {w w' : World} (h : Fresh w S T) (hs : w.heap.size ≤ w'.heap.size) (k : Fresh w' T U) : Fresh w S U := fun i hi => by
 rcases k i hi with h1 | h1
 ·exact h i h1
 ·exact .inr (by omega)
theorem Only.fresh {S T : Nat → Prop} {a b c : World} (h : Only S a b) (hf : Fresh a S T) (k : Only T b c) : Only S a c :=
 h.trans k fun i hi ht => by
  rcases hf i ht with h1 | h1
  ·exact h1
  ·omega
end Go.Proofs.YtndkmgcmegcieaaGreatDoor
/-
  A ROW OF STRUCTS THAT BEAR A SLICE OF BYTES EACH (packets, frames), AS A LIST; with a footprint T (the blocks of its bodies). F says of each one its cells, its slice value given; body its bytes. No program is named.
-/
namespace Go.Proofs.YtndkmgcmegcieaaGreatDoor
open Go.ChangeShapes Go.WideShapes Go.ChangeAt Go.RowKit Go.Deep
set_option linter.unusedVariables false
set_option linter.unusedSimpArgs false
theorem RowB.only0 {k : IntKind} {S : Nat → Prop} {w w' : World} {A : Option Addr} {n : Nat} {xs : List Int} (h : RowB k w A n xs) (ho : Only S w w') (hn : 0 < n → ∀ p, A = some p → ¬ S p.block) : RowB k w' A n xs :=
 ⟨h.len, h.le, h.wf, fun hp => by
   obtain ⟨b, off, e, h1⟩ := h.cells hp
   have hb : ¬ S b := hn hp _ e
   exact ⟨b, off, e, fun i hi => ho.cell (h1 i hi) hb⟩⟩
def ElK (T : Nat → Prop) (w : World) (v : Value) (xs : List Int) : Prop := ∃ a m c, v = .slice a m c ∧ RowB .u8 w a m xs ∧ m ≤ c ∧ (0 < m → ∀ p, a = some p → T p.block)
section
variable {T U S : Nat → Prop} {w w' : World} {v : Value} {xs : List Int}
theorem ElK.nil (T : Nat → Prop) (w : World) : ElK T w (.slice none 0 0) [] := ⟨none, 0, 0, rfl, RowB.nil, Nat.le_refl _, fun h => by omega⟩
theorem ElK.of {a : Option Addr} {m c : Nat} (h : RowB .u8 w a m xs) (hc : m ≤ c) (ht : 0 < m → ∀ p, a = some p → T p.block) : ElK T w (.slice a m c) xs := ⟨a, m, c, rfl, h, hc, ht⟩
theorem ElK.below (h : ElK T w v xs) (hb : Below w.heap.size w w') : ElK T w' v xs := by
 obtain ⟨a, m, c, rfl, hr, hc, ht⟩ := h
 exact ⟨a, m, c, rfl, hr.below hb, hc, ht⟩
theorem ElK.drewN (h : ElK T w v xs) (n : Nat) : ElK T (w.drewN n) v xs := by
 obtain ⟨a, m, c, rfl, hr, hc, ht⟩ := h
 exact ⟨a, m, c, rfl, hr.drewN n, hc, ht⟩
theorem ElK.only (h : ElK T w v xs) (ho : Only S w w') (hs : ∀ k, T k → ¬ S k) : ElK T w' v xs := by
 obtain ⟨a, m, c, rfl, hr, hc, ht⟩ := h
 exact ⟨a, m, c, rfl, hr.only0 ho fun hp p e => hs _ (ht hp p e), hc, ht⟩
theorem ElK.mono (h : ElK T w v xs) (hs : ∀ k, k < w.heap.size → T k → U k) : ElK U w v xs := by
 obtain ⟨a, m, c, rfl, hr, hc, ht⟩ := h
 refine ⟨a, m, c, rfl, hr, hc, fun hp p e => ?_⟩
 obtain ⟨b, off, e2, h1⟩ := hr.cells hp
 rw [e] at e2
 obtain rfl := Option.some.inj e2
 exact hs _ (cell_lt' (h1 0 hp)) (ht hp _ e)
end
def FK {α : Type} (F : α → Value → List Value) : α × Value → List Value := fun p => F p.1 p.2
def RowK {α : Type} (F : α → Value → List Value) (body : α → List Int) (sz : Nat) (d : α × Value) (T : Nat → Prop) (w : World) (A : Option Addr) (n : Nat) (l : List α) : Prop :=
 ∃ l' : List (α × Value), RowS (FK F) sz d w A n l' ∧ l'.map Prod.fst = l ∧ ∀ p ∈ l', ElK T w p.2 (body p.1)
def OwnK {α : Type} (F : α → Value → List Value) (body : α → List Int) (sz : Nat) (T : Nat → Prop) (w : World) (base : Nat) (e : TypeId) (v : Value) (n : Nat) (l : List α) : Prop :=
 ∃ l' : List (α × Value), OwnS (FK F) sz w base e v n l' ∧ l'.map Prod.fst = l ∧ (∀ p ∈ l', ElK T w p.2 (body p.1)) ∧ ∀ g, v.ownBlock = some g → ¬ T g
section
variable {α : Type} {F : α → Value → List Value} {body : α → List Int} {sz : Nat} {d : α × Value} {T U S : Nat → Prop} {w w' : World} {A : Option Addr} {n : Nat} {l : List α}
theorem RowK.nil (T : Nat → Prop) (w : World) (A : Option Addr) : RowK F body sz d T w A 0 [] := ⟨[], RowS.nil, rfl, fun p hp => (by cases hp)⟩
theorem RowK.len (h : RowK F body sz d T w A n l) : l.length = n := by
 obtain ⟨l', hr, rfl, -⟩ := h
 rw [List.length_map]; exact hr.len
theorem RowK.le (h : RowK F body sz d T w A n l) : n ≤ maxLen := by
 obtain ⟨l', hr, -, -⟩ := h
 exact hr.le
theorem getD_fst (l' : List (α × Value)) (d : α × Value) (i : Nat) : (l'.map Prod.fst).getD i d.1 = (l'.getD i d).1 := by
 unfold List.getD
 rw [List.getElem?_map]
 cases l'[i]? <;> rfl
theorem RowK.el (h : RowK F body sz d T w A n l) (i : Nat) (hi : i < n) :
 ∃ b off a m c, A = some ⟨b, off, none⟩ ∧ w.rangeAt b (off + i * sz) (F (l.getD i d.1) (.slice a m c)) ∧ RowB .u8 w a m (body (l.getD i d.1)) ∧ m ≤ c ∧ (0 < m → ∀ p, a = some p → T p.block) := by
 obtain ⟨l', hr, rfl, hx⟩ := h
 obtain ⟨b, off, e, hc⟩ := hr.el i hi
 have hl := hr.len
 have hm : l'.getD i d ∈ l' := by
  have : l'.getD i d = l'[i]'(by omega) := by simp [List.getD, show i < l'.length by omega]
  rw [this]; exact List.getElem_mem _
 obtain ⟨a, m, c, ev, h1, h2, h3⟩ := hx _ hm
 refine ⟨b, off, a, m, c, e, ?_, ?_, h2, h3⟩
 ·rw [getD_fst, ← ev]; exact hc
 ·rw [getD_fst]; exact h1
theorem RowK.below (h : RowK F body sz d T w A n l) (hb : Below w.heap.size w w') : RowK F body sz d T w' A n l := by
 obtain ⟨l', hr, e, hx⟩ := h
 exact ⟨l', hr.below hb, e, fun p hp => (hx p hp).below hb⟩
theorem RowK.drewN (h : RowK F body sz d T w A n l) (m : Nat) : RowK F body sz d T (w.drewN m) A n l := by
 obtain ⟨l', hr, e, hx⟩ := h
 exact ⟨l', hr.drewN m, e, fun p hp => (hx p hp).drewN m⟩
theorem RowK.only (h : RowK F body sz d T w A n l) (ho : Only S w w') (hA : ∀ p, A = some p → ¬ S p.block) (hs : ∀ k, T k → ¬ S k) : RowK F body sz d T w' A n l := by
 obtain ⟨l', hr, e, hx⟩ := h
 exact ⟨l', hr.only ho hA, e, fun p hp => (hx p hp).only ho hs⟩
theorem RowK.mono (h : RowK F body sz d T w A n l) (hs : ∀ k, k < w.heap.size → T k → U k) : RowK F body sz d U w A n l := by
 obtain ⟨l', hr, e, hx⟩ := h
 exact ⟨l', hr, e, fun p hp => (hx p hp).mono hs⟩
theorem RowK.first (h : RowK F body sz d T w A n l) (m : Nat) (hm : m ≤ n) : RowK F body sz d T w A m (l.take m) := by
 obtain ⟨l', hr, rfl, hx⟩ := h
 exact ⟨l'.take m, hr.first m hm, List.map_take.symm ▸ rfl, fun p hp => hx p (List.mem_of_mem_take hp)⟩
theorem RowS.rest {β : Type} {G : β → List Value} {d : β} {l : List β} {b off : Nat} (h : RowS G sz d w (some ⟨b, off, none⟩) n l) (k : Nat) (hk : k ≤ n) : RowS G sz d w (some ⟨b, off + k * sz, none⟩) (n - k) (l.drop k) := by
 have hl := h.len
 have hle := h.le
 refine ⟨by rw [List.length_drop]; omega, by omega, fun hp => ?_⟩
 obtain ⟨b', off', e, h1⟩ := h.els (by omega)
 cases e
 refine ⟨b, off + k * sz, rfl, fun i hi => ?_⟩
 have hg : (l.drop k).getD i d = l.getD (k + i) d := by simp [List.getD, List.getElem?_drop]
 rw [hg, Nat.add_assoc, ← Nat.add_mul]
 exact h1 (k + i) (by omega)
theorem RowK.rest {b off : Nat} (h : RowK F body sz d T w (some ⟨b, off, none⟩) n l) (k : Nat) (hk : k ≤ n) : RowK F body sz d T w (some ⟨b, off + k * sz, none⟩) (n - k) (l.drop k) := by
 obtain ⟨l', hr, rfl, hx⟩ := h
 exact ⟨l'.drop k, hr.rest k hk, by rw [List.map_drop], fun p hp => hx p (List.mem_of_mem_drop hp)⟩
theorem OwnK.nil (T : Nat → Prop) (w : World) (base : Nat) (e : TypeId) : OwnK F body sz T w base e (.slice none 0 0) 0 [] := ⟨[], OwnS.nil w base e, rfl, fun p hp => (by cases hp), fun g hg => (by cases hg)⟩
section
variable {base : Nat} {e : TypeId} {v : Value}
theorem OwnK.below (h : OwnK F body sz T w base e v n l) (hb : Below w.heap.size w w') : OwnK F body sz T w' base e v n l := by
 obtain ⟨l', ho, e1, hx, hg⟩ := h
 exact ⟨l', ho.below hb, e1, fun p hp => (hx p hp).below hb, hg⟩
theorem OwnK.drewN (h : OwnK F body sz T w base e v n l) (m : Nat) : OwnK F body sz T (w.drewN m) base e v n l := h.below (below_drewN (Below.refl _ _) m)
theorem OwnK.only (h : OwnK F body sz T w base e v n l) (ho : Only S w w') (hg : ∀ g, v.ownBlock = some g → ¬ S g) (hs : ∀ k, T k → ¬ S k) : OwnK F body sz T w' base e v n l := by
 obtain ⟨l', h1, e1, hx, h2⟩ := h
 exact ⟨l', ⟨owns_only h1.1 ho hg, h1.2⟩, e1, fun p hp => (hx p hp).only ho hs, h2⟩
theorem OwnK.mono (h : OwnK F body sz T w base e v n l) (hs : ∀ k, k < w.heap.size → T k → U k) (hg : ∀ g, v.ownBlock = some g → ¬ U g) : OwnK F body sz U w base e v n l := by
 obtain ⟨l', h1, e1, hx, h2⟩ := h
 exact ⟨l', h1, e1, fun p hp => (hx p hp).mono hs, hg⟩
theorem OwnK.len (h : OwnK F body sz T w base e v n l) : l.length = n := by
 obtain ⟨l', ⟨-, hl⟩, rfl, -⟩ := h
 rw [List.length_map]; exact hl
theorem OwnK.row (h : OwnK F body sz T w base e v n l) (hF : ∀ a u, (F a u).length = sz) (hn : n ≤ maxLen) : ∃ A c, v = .slice A n c ∧ RowK F body sz d T w A n l ∧ n ≤ c := by
 obtain ⟨l', h1, e1, hx, -⟩ := h
 obtain ⟨A, c, ev, hr, hc⟩ := h1.row (d := d) (fun p => hF p.1 p.2) hn
 exact ⟨A, c, ev, ⟨l', hr, e1, hx⟩, hc⟩
theorem OwnK.snoc {g cap : Nat} {u : α} {x : Value} {l' : List (α × Value)} (h : OwnS (FK F) sz w base e v n l') (he : l'.map Prod.fst = l) (hx : ∀ p ∈ l', ElK T w p.2 (body p.1)) (hT : ∀ g, v.ownBlock = some g → ¬ T g) (hlt : ∀ k, T k → k < w.heap.size)
 (hown : w'.ownsRow base e sz (.slice (some ⟨g, 0, none⟩) (n + 1) cap) (n + 1) (l'.flatMap (FK F) ++ F u x)) (hgrow : w.grownBy w' v.ownBlock) (hg : v.ownBlock = some g ∨ g = w.heap.size) (hu : ElK T w x (body u)) :
 OwnK F body sz T w' base e (.slice (some ⟨g, 0, none⟩) (n + 1) cap) (n + 1) (l ++ [u]) := by
 have hO : Only (fun k => v.ownBlock = some k) w w' := (Only.refl _ w).grown hgrow fun k hk _ => hk
 have hs : ∀ k, T k → ¬ v.ownBlock = some k := fun k hk e => hT k e hk
 refine ⟨l' ++ [(u, x)], ⟨?_, by simp [h.2]⟩, by simp [he], fun p hp => ?_, fun g' hg' => ?_⟩
 ·rw [List.flatMap_append]
  simpa [FK] using hown
 ·rcases List.mem_append.1 hp with hp | hp
  ·exact (hx p hp).only hO hs
  ·rw [List.mem_singleton.1 hp]; exact hu.only hO hs
 ·have e1 : g' = g := by simpa [Value.ownBlock] using hg'.symm
  rw [e1]
  rcases hg with h1 | h1
  ·exact hT g h1
  ·intro ht; have := hlt g ht; omega
theorem app_k {P : Program} {ops : Array Oper} {rest : List Oper} {o : Oper} {a : Act} {Q : Exit → Act → World → Prop} (hgd : o.guard = none) (s x : Operand) (t : TypeId)
 (ho : o.op = .call { callee := .builtin .append, args := #[s, x], argTypes := #[t, t] }) (e : TypeId) (i : TypeInfo) (z : Value) (bytes : Nat) (ht : P.underlying t = some (.slice e)) (hi : P.info? e = some i) (hz : i.zero = some z) (hsize : i.size = sz) (hby : i.bytes = bytes) (hzs : z.cells.size = sz) (hsz : 0 < sz)
 (B k : Nat) (lv : Value) (hs : a.eval s = lv) (hP : OwnK F body sz T w B e lv k l) (u : α) (y : Value) (ad : Addr) (c : Nat) (hx : a.eval x = .slice (some ad) 1 c) (hF : (F u y).length = sz) (hc : ∀ j q, (F u y)[j]? = some q → w.cell? (ad.add j) = some q) (h1 : ∀ q ∈ F u y, q.oneCell' = true) (hu : ElK T w y (body u))
 (hlt : ∀ k, T k → k < w.heap.size) (hk : k + 1 ≤ 1000000000) (hbt : (k + 1) * bytes ≤ 140737488355328) (hB : B ≤ w.heap.size)
 (h : ∀ g' cap' w', Hid (OwnK F body sz T w' B e (.slice (some ⟨g', 0, none⟩) (k + 1) cap') (k + 1) (l ++ [u])) → Hid (Below B w w') → Hid (Only (fun j => lv.ownBlock = some j) w w') → Hid (lv.ownBlock = some g' ∨ g' = w.heap.size) → wpList P ops Q rest (a.put o.dst (.slice (some ⟨g', 0, none⟩) (k + 1) cap')) w') : wpList P ops Q (o :: rest) a w := by
 obtain ⟨l', hP1, hP2, hP3, hP4⟩ := hP
 refine wpList_append_lies w hgd s x t ho B e i z sz bytes ht hi hz hsize hby hzs hsz lv k _ hs hP1.1 ad 1 c (F u y) hx (by rw [hF, Nat.one_mul]) hc h1 (by omega) (by unfold maxLen; omega) hbt hB w.heap.size rfl ?_
 intro g cap w' hown hgrow hor _
 have hor' : lv.ownBlock = some g ∨ g = w.heap.size := hor
 exact h g cap w' (OwnK.snoc hP1 hP2 hP3 hP4 hlt hown hgrow hor' hu) ((Below.refl B w).grown hgrow hB (by intro q hq; exact (World.ownsRow.lt hP1.1 q hq).1)) ((Only.refl _ w).grown hgrow fun k hk _ => hk) hor'
end
end
end Go.Proofs.YtndkmgcmegcieaaGreatDoor
/-
  STEPS OF A DRAWN REGION IN SHORT FORM: under a condition that holds throughout. No program is named.
-/
namespace Go.Proofs.YtndkmgcmegcieaaGreatDoor
section
variable {P : Program} {ops : Array Oper} {Q : Exit → Act → World → Prop} {md : Region.Mode} {S : World → Prop} {d : Nat}
theorem hP (i : Nat) {oi : Oper} {v : Value} {fuel : Nat} {listed : Array Bool} {a a' : Act} {w : World} (h : wpAnyH P md ops Q S fuel (listed.setIfInBounds i true) a' w)
 (hi : ops[i]? = some oi := by rfl) (hs : Region.noSelect ops = true := by kernel_rfl) (hf : Region.free md ops listed i = true := by kernel_rfl) (hr : (Region.ready md ops listed).contains i = true := by kernel_rfl) (hQ : ∀ c a w, Q (.panic c) (a.put oi.dst v) w → Q (.panic c) a w := by exact fun _ _ _ h => h)
 (hg : Region.wanted oi (yielded ops a.tmps) = true := by rfl) (hv : ∀ w, (execOp a.eval oi).run P w = .ok (.value v) w := by intro w; go_simp; try with_reducible rfl) (hS : S w := by assumption)
 (ha : a.put oi.dst v = a' := by (try simp only [Act.put, sG1, sG2, sG3, sG4, sG5, sG6]); rfl) : wpAnyH P md ops Q S (fuel + 1) listed a w :=
 wpAnyH_take hi hs hf hr hQ (.inl ⟨hg, fun w _ => hv w⟩) hS (ha ▸ h)
theorem hT (i : Nat) {oi : Oper} {v : Value} {fuel : Nat} {listed : Array Bool} {a a' : Act} {w : World} {F : World → Prop} (hz : ∀ w, S w → F w) (h : wpAnyH P md ops Q S fuel (listed.setIfInBounds i true) a' w)
 (hi : ops[i]? = some oi := by rfl) (hs : Region.noSelect ops = true := by kernel_rfl) (hf : Region.free md ops listed i = true := by kernel_rfl) (hr : (Region.ready md ops listed).contains i = true := by kernel_rfl) (hQ : ∀ c a w, Q (.panic c) (a.put oi.dst v) w → Q (.panic c) a w := by exact fun _ _ _ h => h)
 (hg : Region.wanted oi (yielded ops a.tmps) = true := by rfl) (hv : ∀ w, F w → (execOp a.eval oi).run P w = .ok (.value v) w := by intro w hz; go_simp; try with_reducible rfl) (hS : S w := by assumption)
 (ha : a.put oi.dst v = a' := by (try simp only [Act.put, sG1, sG2, sG3, sG4, sG5, sG6]); rfl) : wpAnyH P md ops Q S (fuel + 1) listed a w :=
 wpAnyH_take hi hs hf hr hQ (.inl ⟨hg, fun w hw => hv w (hz w hw)⟩) hS (ha ▸ h)
end
theorem sG1 {α : Type} {l : List α} {i : Nat} (h : i < l.toArray.size) : l.toArray[i] = l[i]'(by simpa using h) := List.getElem_toArray h
theorem sG2 {α : Type} {a : α} {l : List α} (h : 0 < (a :: l).length) : (a :: l)[0] = a := rfl
theorem sG3 {α : Type} {a : α} {l : List α} {i : Nat} (h : i + 1 < (a :: l).length) : (a :: l)[i + 1] = l[i]'(Nat.lt_of_succ_lt_succ h) := rfl
theorem sG4 {α : Type} {l : List α} {i : Nat} {a : α} : l.toArray.setIfInBounds i a = (l.set i a).toArray := List.setIfInBounds_toArray l i a
theorem sG5 {α : Type} {x a : α} {l : List α} : (x :: l).set 0 a = a :: l := rfl
theorem sG6 {α : Type} {x a : α} {l : List α} {i : Nat} : (x :: l).set (i + 1) a = x :: l.set i a := rfl
end Go.Proofs.YtndkmgcmegcieaaGreatDoor
