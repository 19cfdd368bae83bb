/-
  WHAT EACH LAYER WANTS, no address named: whole structs in and out of a block, an error against nil, rows, an own row's block, lists of bytes.
-/
import Derived.Test.YtejdmpdbapfomaaDoorApp
import Derived.Test.YtejdmpdbapfomaaDoorNum
import Derived.Test.YtejdmpdbapfomaaDoorErr
import Derived.Laws.Rows
import Derived.Laws.Tables
import Derived.Laws.Cells
import Derived.Deep.MidRow
import Derived.Deep.WholeRow
import Derived.Laws.CopyOwn
import Derived.Laws.CopyRow
import Derived.Deep.RegionHeld3
import Derived.Deep.RegionLaw
import Derived.IntWalk
import Derived.ChangeAlike
import Derived.BigRegion
import Derived.LoopTactic
import Derived.WideLaws
namespace Go.Proofs.YtejdmpdbapfomaaDoor
open Go.ChangeShapes Go.WideShapes Go.ChangeAt Go.RowKit
set_option linter.unusedVariables false
set_option linter.unusedSimpArgs false

theorem setRow_same (w : World) (g : Nat) (t : TypeId) (fr : Nat × Nat) (c : Array Value) (hg : w.heap[g]? = some (.cells c t fr)) : w.setRow g c = w := by
  unfold World.setRow
  cases w with
  | mk heap tape drawn os output =>
    congr 1
    apply Array.ext_getElem?
    intro i
    rw [Array.getElem?_modify]
    by_cases h : g = i
    · subst h
      have hg' : heap[g]? = some (.cells c t fr) := hg
      simp [hg']
    · simp [h]
theorem run_storeAt_row {P : Program} (w : World) (g : Nat) (t ty : TypeId) (old c : Array Value) (hg : w.heap[g]? = some (.cells old t (0, 0))) (hi : (P.info? ty).map (·.size) = some c.size) (ho : old.size = c.size) (h1 : c.all (·.oneCell') = true) :
    (Instr.storeAt ty (.pointer (some ⟨g, 0, none⟩)) (.agg c)).run P w = .ok () (w.setRow g c) := by
  simp only [Instr.storeAt, Instr.sureAddr, Sem.run_bind, Sem.run_pure, Result.andThen]
  exact run_storeVar_row w g t ty old c hg hi ho h1
theorem run_storeCells_row {P : Program} (w : World) (g : Nat) (t : TypeId) (old c : Array Value) (hg : w.heap[g]? = some (.cells old t (0, 0))) (ho : old.size = c.size) (h1 : c.all (·.oneCell') = true) :
    (storeCells ⟨g, 0, none⟩ c.toList 0).run P w = .ok () (w.setRow g c) := by
  have := run_storeCells_from (P := P) g t c.toList 0 old w hg (by simp; omega) (fun v hv => (Array.all_eq_true_iff_forall_mem.1 h1) v (by simpa using hv))
  simpa using this
/-- a whole value stored over the very same: the world stands. -/
theorem run_storeCells_same {P : Program} (w : World) (g : Nat) (t : TypeId) (c : Array Value) (hg : w.heap[g]? = some (.cells c t (0, 0))) (h1 : c.all (·.oneCell') = true) :
    (storeCells ⟨g, 0, none⟩ c.toList 0).run P w = .ok () w := by
  rw [run_storeCells_row w g t c c hg rfl h1, setRow_same w g t (0, 0) c hg]
theorem results_cell_slot {P : Program} {fn : Func} {p q : Tmp} {ty : TypeId} (h : fn.results = #[.cell p ty, .tmp q]) (tmps : Array Value) (w : World) (g : Nat) (t : TypeId) (cs : Array Value) (fr : Nat × Nat) (d : TypeDesc)
    (hp : tmps.getD p undef = .pointer (some ⟨g, 0, none⟩)) (hg : w.heap[g]? = some (.cells cs t fr))
    (hu : P.underlying ty = some d) (hd : (match d with | .struct _ | .array _ _ => true | _ => false) = true) (hi : (P.info? ty).map (·.size) = some cs.size) :
    (results fn tmps).run P w = .ok (.tuple #[.agg cs, tmps.getD q undef]) w := by
  have hp' : tmps[p]?.getD undef = .pointer (some ⟨g, 0, none⟩) := by simpa using hp
  simp [results, h, hp', asAddr, run_loadVar_row w g t ty cs fr d hg hu hd hi]
/-- a whole value out of a block that is known whole, under a guard that says yes. -/
theorem wpList_load_if {P : Program} {ops : Array Oper} {rest : List Oper} {o : Oper} {a : Act} {w : World} {Q : Exit → Act → World → Prop} (hgd : Region.wanted o (yielded ops a.tmps) = true) (ty : TypeId) (x : Operand) (ho : o.op = .load ty x)
    (g : Nat) (hx : a.eval x = .pointer (some ⟨g, 0, none⟩)) (t : TypeId) (cs : Array Value) (fr : Nat × Nat) (d : TypeDesc) (hg : w.heap[g]? = some (.cells cs t fr))
    (hu : P.underlying ty = some d) (hd : (match d with | .struct _ | .array _ _ => true | _ => false) = true) (hi : (P.info? ty).map (·.size) = some cs.size)
    (h : wpList P ops Q rest (a.put o.dst (.agg cs)) w) : wpList P ops Q (o :: rest) a w :=
  wpList_step fun _ hK => by
    rw [if_pos hgd]
    exact wp_load_row ty x ho g hx t cs fr d hg hu hd hi (hK _ _ h)
/-- copy into the midst of a block that is known whole, as one step of a region that draws: that block; every other one is as it was. -/
theorem step_copy_into {P : Program} {ops : Array Oper} {o : Oper} {a : Act} {w : World} {K : Act → World → Prop} {Q : Exit → Act → World → Prop} {E : Prop} (hgd : o.guard = none) (d s : Operand) (T e : TypeId)
    (ho : o.op = .call { callee := .builtin .copy, args := #[d, s], argTypes := #[T, T] }) (hu : P.underlying T = some (.slice e)) (hsz : (P.info? e).map (·.size) = some 1)
    (g off dLen dCap : Nat) (ad : Addr) (sLen sCap : Nat) (hd : a.eval d = .slice (some ⟨g, off, none⟩) dLen dCap) (hs : a.eval s = .slice (some ad) sLen sCap)
    (cur new : Array Value) (t : TypeId) (hg : w.heap[g]? = some (.cells cur t (0, 0))) (cs : List Value) (hn : cs.length = Nat.min sLen dLen)
    (hsrc : ∀ j v, cs[j]? = some v → w.cell? (ad.add j) = some v) (hfit : off + cs.length ≤ cur.size) (h1 : ∀ v ∈ cs, v.oneCell' = true)
    (hnew : (cur.toList.take off ++ cs ++ cur.toList.drop (off + cs.length)).toArray = new)
    (h : ∀ w', Hid (w'.heap[g]? = some (.cells new t (0, 0))) → Hid (∀ k, k ≠ g → w'.heap[k]? = w.heap[k]?) → Hid (∀ B w0, Below B w0 w → B ≤ g → Below B w0 w') → K (a.put o.dst (goInt cs.length)) w') :
    if Region.wanted o (yielded ops a.tmps) = true then Oper.wp P o a w K Q else E := by
  have hw : Region.wanted o (yielded ops a.tmps) = true := by simp [Region.wanted, hgd]
  rw [if_pos hw]
  have hrun := run_copy_row (P := P) w T T o.type e g off dLen dCap ad sLen sCap cur t cs hu hsz hg hn hsrc hfit h1
  rw [hnew] at hrun
  unfold Oper.wp
  simp [execOp, ho, resolve, invoke, builtin, hd, hs, hrun, Result.andThen]
  exact h _ (setRow_heap w g _ _ t _ hg) (fun k hk => setRow_other w g k _ hk) (fun B w0 hb hB => below_setRow hb hB _)
/-- a value of one cell stored into a block that is known whole (a field of a struct): the block said whole anew. -/
theorem run_storeAt_into {P : Program} (w : World) (g i : Nat) (t ty : TypeId) (cur new : Array Value) (v : Value) (hg : w.heap[g]? = some (.cells cur t (0, 0))) (hi : (P.info? ty).map (·.size) = some 1) (hlt : i < cur.size) (h1 : v.oneCell' = true) (hnew : cur.setIfInBounds i v = new) :
    (Instr.storeAt ty (.pointer (some ⟨g, i, none⟩)) v).run P w = .ok () (w.setRow g new) := by
  subst hnew
  have hc : v.cells = #[v] := by cases v <;> first | rfl | cases h1
  have hcell : w.cell? ⟨g, i, none⟩ = some cur[i] := by simp [World.cell?, hg, hlt]
  have hfro : w.frozen? ⟨g, i, none⟩ = false := by simp [World.frozen?, hg]
  have hst : (store ⟨g, i, none⟩ v).run P w = .ok () (w.setRow g (cur.setIfInBounds i v)) := by
    rw [run_store P w _ v _ h1, hcell]
    simp [hfro, setCell_eq_setRow w g i cur t (0, 0) v hg]
  have hadd : (⟨g, i, none⟩ : Addr).add 0 = ⟨g, i, none⟩ := by unfold Addr.add; split <;> simp_all
  cases hq : P.info? ty with
  | none => simp [hq] at hi
  | some inf =>
    have hs : inf.size = 1 := by simpa [hq] using hi
    simp [Instr.storeAt, Instr.sureAddr, storeVar, sizeOf, typeInfo, hq, hc, hs, storeCells, hadd, hst, Result.andThen]
theorem wpList_store_into {P : Program} {ops : Array Oper} {rest : List Oper} {o : Oper} {a : Act} {w : World} {Q : Exit → Act → World → Prop} (hgd : Region.wanted o (yielded ops a.tmps) = true) (ty : TypeId) (x y : Operand) (ho : o.op = .store ty x y)
    (g i : Nat) (v : Value) (hx : a.eval x = .pointer (some ⟨g, i, none⟩)) (hy : a.eval y = v) (h1 : v.oneCell' = true)
    (t : TypeId) (cur new : Array Value) (hg : w.heap[g]? = some (.cells cur t (0, 0))) (hi : (P.info? ty).map (·.size) = some 1) (hlt : i < cur.size) (hnew : cur.setIfInBounds i v = new)
    (h : wpList P ops Q rest (a.put o.dst undef) (w.setRow g new)) : wpList P ops Q (o :: rest) a w :=
  wpList_step fun _ hK => by
    rw [if_pos hgd]
    unfold Oper.wp execOp
    simp only [ho, hx, hy, Sem.run_bind, Sem.run_pure, Result.andThen_ok, run_storeAt_into w g i t ty cur new v hg hi hlt h1 hnew]
    exact hK _ _ h
/-- a row without its first k. -/
theorem drop_row {k : IntKind} {w : World} {b off n : Nat} {xs : List Int} (h : RowB k w (some ⟨b, off, none⟩) n xs) (m : Nat) (hm : m ≤ n) : RowB k w (some ⟨b, off + m, none⟩) (n - m) (xs.drop m) := by
  have hl := h.len
  have e : ∀ i, (xs.drop m).getD i 0 = xs.getD (m + i) 0 := fun i => by simp [List.getD]
  refine ⟨by simp; omega, Nat.le_trans (Nat.sub_le _ _) h.le, fun i hi => ?_, fun hp => ⟨b, off + m, rfl, fun i hi => ?_⟩⟩
  · rw [e i]; exact h.wf _ (by omega)
  · obtain ⟨b', off', e', hc⟩ := h.el (m + i) (by omega)
    cases e'
    rw [e i, Nat.add_assoc]; exact hc
theorem OwnB.of_block {w w' : World} {base : Nat} {T : TypeId} {k : IntKind} {g n cap : Nat} {xs : List Int} (h : OwnB w base T k g n cap xs) (hg : w'.heap[g]? = w.heap[g]?) : OwnB w' base T k g n cap xs := by
  refine ⟨h.1, ?_⟩
  rcases h.2 with hn | ⟨g', cap', cur, e, hb', hg', rest⟩
  · exact .inl hn
  · refine .inr ⟨g', cap', cur, e, hb', ?_, rest⟩
    injection e with e
    injection e with e
    injection e with e
    subst e
    rw [hg]; exact hg'
theorem OwnB.base {w : World} {base base' : Nat} {T : TypeId} {k : IntKind} {g n cap : Nat} {xs : List Int} (h : OwnB w base T k g n cap xs) (hb : base' ≤ base) : OwnB w base' T k g n cap xs := by
  refine ⟨h.1, ?_⟩
  rcases h.2 with hn | ⟨g', cap', cur, e, hb', rest⟩
  · exact .inl hn
  · exact .inr ⟨g', cap', cur, e, Nat.le_trans hb hb', rest⟩
theorem sizeU8 : (Tryd.prog.info? 5).map (·.size) = some 1 := by kernel_rfl
theorem u8all {p : Int → Prop} (h : ∀ n : Nat, n < 256 → p (n : Int)) (v : Int) (h0 : 0 ≤ v) (h1 : v ≤ 255) : p v := by
  obtain ⟨m, rfl⟩ := Int.eq_ofNat_of_zero_le h0
  exact h m (by omega)
theorem ret_vv {a b : Value} (h : b = a) : Ending.returned a = .returned b := by rw [h]
def codeB (ok : Bool) : Nat := if ok = true then 0 else 103
def outB (ok : Bool) (xs : List Int) : List Int := if ok = true then xs else []
theorem codeB_4 (ok : Bool) : codeB ok = 0 ∨ codeB ok ∈ S4 := by cases ok <;> first | exact .inl rfl | exact .inr (by decide)
theorem four14 : ∀ c ∈ S4, c ∈ S14 := by decide
theorem Sent.four {w : World} {E : Nat → Addr} (h : Sent w E S14) : Sent w E S4 := h.sub four14
/-- a boxed struct's cells, in every world in which what was there then stands. -/
theorem b_at {w w' : World} {cs : Array Value} {T : TypeId} {B : Nat} (hb : Below B (w.alloc (.cells cs T)) w') (hB : w.heap.size < B) (i : Nat) : w'.cell? ⟨w.heap.size, i, none⟩ = cs[i]? :=
  (hb.cell (p := ⟨w.heap.size, i, none⟩) hB).trans (World.cell?_alloc_mark w cs T (0, 0) i)
theorem quiet_left {P : Program} {f : FuncId} {args : Array Value} {w : World} {n : Nat} {v : Value}
    (h : Calls P f args (w.drewN n) fun e w' => e = .returned v ∧ ∃ m, w' = (w.drewN n).drewN m) : Calls P f args (w.drewN n) fun e w'' => e = .returned v ∧ ∃ m, w'' = w.drewN m :=
  h.mono fun _ _ ⟨he, m, hm⟩ => ⟨he, n + m, by rw [hm]; simp [World.drewN, Nat.add_assoc]⟩
theorem drop_getD (xs : List Int) (m i : Nat) : (xs.drop m).getD i 0 = xs.getD (m + i) 0 := by simp [List.getD]
theorem RowB.at_ {k : IntKind} {w : World} {b off n : Nat} {xs : List Int} (h : RowB k w (some ⟨b, off, none⟩) n xs) (i : Nat) (hi : i < n) : w.cell? ⟨b, off + i, none⟩ = some (.int k (xs.getD i 0)) := by
  obtain ⟨b', off', e, hc⟩ := h.el i hi
  cases e
  exact hc
theorem all_wf {xs : List Int} {n : Nat} (hl : xs.length = n) (h : ∀ v ∈ xs, 0 ≤ v ∧ v ≤ 255) : ∀ i, i < n → 0 ≤ xs.getD i 0 ∧ xs.getD i 0 ≤ 255 := by
  intro i hi
  exact h _ (mem_getD (by omega))
theorem take_map (xs : List Int) (k : Nat) (h : k ≤ xs.length) : xs.take k = (List.range k).map fun i => xs.getD i 0 := by
  apply List.ext_getElem
  · simp; omega
  · intro i h1 h2
    simp at h1 h2
    simp [List.getD, show i < xs.length by omega]
theorem list_map (xs : List Int) (k : Nat) (h : xs.length = k) : xs = (List.range k).map fun i => xs.getD i 0 := by
  have := take_map xs k (by omega)
  rwa [List.take_of_length_le (by omega)] at this
theorem errV_nil (E : Nat → Addr) (c : Nat) (w : World) : (binOp .eql 27 (errV E c) .nilIface).run Tryd.prog w = .ok (.bool (c == 0)) w := by
  by_cases h : c = 0
  · subst h
    rw [errV_zero]
    exact run_eql_nil_nil w 27 (by kernel_rfl)
  · rw [errV_pos E h, show (c == 0) = false by simpa using h]
    exact run_eql_held_nil w 27 _ _ (by kernel_rfl)
theorem errV_guard (E : Nat → Addr) (c : Nat) (x : Operand) : eqGuard .eql 27 x (.const .nilIface) (errV E c) .nilIface = pure () := by
  by_cases h : c = 0
  · subst h; rw [errV_zero]; exact eqGuard_nil_constR ..
  · rw [errV_pos E h]; exact eqGuard_at_iface ..
theorem errV_nnil (E : Nat → Addr) (c : Nat) (w : World) : (binOp .neq 27 (errV E c) .nilIface).run Tryd.prog w = .ok (.bool (c != 0)) w := by
  by_cases h : c = 0
  · subst h
    rw [errV_zero]
    exact run_neq_nil_nil w 27 (by kernel_rfl)
  · rw [errV_pos E h, show (c != 0) = true by simpa using h]
    exact run_neq_held_nil w 27 _ _ (by kernel_rfl)
theorem errV_nguard (E : Nat → Addr) (c : Nat) (x : Operand) : eqGuard .neq 27 x (.const .nilIface) (errV E c) .nilIface = pure () := by
  by_cases h : c = 0
  · subst h; rw [errV_zero]; exact eqGuard_nil_constR ..
  · rw [errV_pos E h]; exact eqGuard_at_iface ..
theorem is_err (E : Nat → Addr) (c : Nat) (d : Int) (w : World) (hS : Sent w E S14) (hc : c = 0 ∨ c ∈ S4) :
    Calls Tryd.prog 15 #[errV E c, .int .i64 d] w fun e w' => e = .returned (.bool ((c : Int) == d)) ∧ Below w.heap.size w w' :=
  is_any E c d w hS (hc.imp id (four14 c))
theorem sameB_refl (ys : List Int) : sameB ys ys = true := by simp [sameB]

theorem run_storeAt_part {P : Program} (w : World) (g o : Nat) (t ty : TypeId) (cur new cs : Array Value) (hg : w.heap[g]? = some (.cells cur t (0, 0))) (hi : (P.info? ty).map (·.size) = some cs.size) (hfit : o + cs.size ≤ cur.size) (h1 : cs.all (·.oneCell') = true)
    (hnew : (cur.toList.take o ++ cs.toList ++ cur.toList.drop (o + cs.size)).toArray = new) :
    (Instr.storeAt ty (.pointer (some ⟨g, o, none⟩)) (.agg cs)).run P w = .ok () (w.setRow g new) := by
  subst hnew
  have hst := run_storeCells_at P g o t cs.toList 0 cur w hg (by simpa using hfit) (fun v hv => (Array.all_eq_true_iff_forall_mem.1 h1) v (by simpa using hv))
  cases hq : P.info? ty with
  | none => simp [hq] at hi
  | some i =>
    have hs : cs.size = i.size := by simp [hq] at hi; omega
    simp only [Nat.add_zero, Array.length_toList] at hst
    simp [Instr.storeAt, Instr.sureAddr, storeVar, sizeOf, typeInfo, hq, Value.cells, hs, hst, Result.andThen]
theorem wpList_store_part {P : Program} {ops : Array Oper} {rest : List Oper} {o : Oper} {a : Act} {w : World} {Q : Exit → Act → World → Prop} (hgd : Region.wanted o (yielded ops a.tmps) = true) (ty : TypeId) (x y : Operand) (ho : o.op = .store ty x y)
    (g i : Nat) (cs : Array Value) (hx : a.eval x = .pointer (some ⟨g, i, none⟩)) (hy : a.eval y = .agg cs)
    (t : TypeId) (cur new : Array Value) (hg : w.heap[g]? = some (.cells cur t (0, 0))) (hi : (P.info? ty).map (·.size) = some cs.size) (hfit : i + cs.size ≤ cur.size) (h1 : cs.all (·.oneCell') = true)
    (hnew : (cur.toList.take i ++ cs.toList ++ cur.toList.drop (i + cs.size)).toArray = new)
    (h : wpList P ops Q rest (a.put o.dst undef) (w.setRow g new)) : wpList P ops Q (o :: rest) a w :=
  wpList_step fun _ hK => by
    rw [if_pos hgd]
    unfold Oper.wp execOp
    simp only [ho, hx, hy, Sem.run_bind, Sem.run_pure, Result.andThen_ok, run_storeAt_part w g i t ty cur new cs hg hi hfit h1 hnew]
    exact hK _ _ h
theorem wp_store_into {P : Program} {o : Oper} {a : Act} {w : World} {K : Act → World → Prop} {Q : Exit → Act → World → Prop} (ty : TypeId) (x y : Operand) (ho : o.op = .store ty x y)
    (g i : Nat) (v : Value) (hx : a.eval x = .pointer (some ⟨g, i, none⟩)) (hy : a.eval y = v) (h1 : v.oneCell' = true)
    (t : TypeId) (cur new : Array Value) (hg : w.heap[g]? = some (.cells cur t (0, 0))) (hi : (P.info? ty).map (·.size) = some 1) (hlt : i < cur.size) (hnew : cur.setIfInBounds i v = new)
    (h : K (a.put o.dst undef) (w.setRow g new)) : Oper.wp P o a w K Q := by
  unfold Oper.wp execOp
  simp only [ho, hx, hy, Sem.run_bind, Sem.run_pure, Result.andThen_ok, run_storeAt_into w g i t ty cur new v hg hi hlt h1 hnew]
  exact h
theorem sizeI64 : (Tryd.prog.info? 3).map (·.size) = some 1 := by kernel_rfl
theorem sizeBool : (Tryd.prog.info? 4).map (·.size) = some 1 := by kernel_rfl
/-- a literal slice of bytes as a row. -/
theorem lit_row (w : World) (ys : List Int) (t : TypeId) (hy : ∀ v ∈ ys, 0 ≤ v ∧ v ≤ 255) (hl : ys.length ≤ maxLen) : RowB .u8 (w.alloc (.cells (ys.map (Value.int .u8)).toArray t)) (some ⟨w.heap.size, 0, none⟩) ys.length ys := by
  refine ⟨rfl, hl, fun i hi => ?_, fun hp => ⟨_, _, rfl, fun i hi => ?_⟩⟩
  · have := hy _ (mem_getD hi)
    simpa [IntKind.min, IntKind.max, IntKind.signed, IntKind.bits] using this
  · have := src_new w ys t i (.int .u8 (ys.getD i 0)) (by simp [List.getD, hi])
    rwa [Addr.add_mid] at this
theorem below_at {w w1 : World} {a : Addr} {v : Value} (hb : Below w.heap.size w w1) (h : w.cell? a = some v) : w1.cell? a = some v := (hb.cell (cell_lt' h)).trans h
theorem lt_blk {w : World} {g : Nat} {o : Obj} (h : w.heap[g]? = some o) : g < w.heap.size := by
  by_cases hp : g < w.heap.size
  · exact hp
  · rw [Array.getElem?_eq_none (Nat.le_of_not_lt hp)] at h; cases h
theorem sameB_eq {xs ys : List Int} (h : sameB xs ys = true) : xs = ys := by simpa [sameB] using h
theorem OwnB.whole {w : World} {base : Nat} {T : TypeId} {k : IntKind} {g n : Nat} {xs : List Int} (h : OwnB w base T k g n n xs) : w.heap[g]? = some (.cells (xs.map (Value.int k)).toArray T (0, 0)) := by
  rcases h.2 with ⟨h', _⟩ | ⟨g', cap', cur, h', hb, hg, hn, hc, hs, ht⟩
  · simp at h'
  · simp only [Value.slice.injEq, Option.some.injEq, Addr.mk.injEq, and_true, true_and] at h'
    obtain ⟨rfl, rfl⟩ := h'
    rw [hg, ← ht, List.take_of_length_le (by simp [hs])]
theorem OwnB.of_whole {w : World} {base : Nat} {T : TypeId} {k : IntKind} {g n : Nat} {xs : List Int} (h : w.heap[g]? = some (.cells (xs.map (Value.int k)).toArray T (0, 0))) (hb : base ≤ g) (hl : xs.length = n) (hm : n ≤ maxLen) : OwnB w base T k g n n xs :=
  ⟨by simpa using hl, .inr ⟨g, n, _, rfl, hb, h, Nat.le_refl _, hm, by simpa using hl, List.take_of_length_le (by simp [hl])⟩⟩
theorem zeros (n : Nat) : (madeCells (Value.int .u8 0).cells (n * 1)).toList = (List.replicate n (0 : Int)).map (Value.int .u8) := by
  rw [Nat.mul_one, List.map_replicate]; exact toList_madeCells_one _ _
theorem notmem_step {xs : List Int} {v : Int} {k : Nat} (h : v ∉ xs.take k) (hk : k < xs.length) (e : xs.getD k 0 ≠ v) : v ∉ xs.take (k + 1) := by
  rw [take_snoc hk]
  simp only [List.mem_append, List.mem_singleton, not_or]
  exact ⟨h, fun hh => e hh.symm⟩
theorem num_inj {a b : Int} (ha : 0 ≤ a ∧ a ≤ 255) (hb : 0 ≤ b ∧ b ≤ 255) (h : UInt8.ofNat a.toNat = UInt8.ofNat b.toNat) : a = b := by
  have := congrArg UInt8.toNat h
  rw [UInt8.toNat_ofNat', UInt8.toNat_ofNat'] at this
  omega
theorem str_eq {xs ys : List Int} (hx : ∀ v ∈ xs, 0 ≤ v ∧ v ≤ 255) (hy : ∀ v ∈ ys, 0 ≤ v ∧ v ≤ 255) : ((strOfNums xs).toList == (strOfNums ys).toList) = sameB xs ys := by
  rw [ByteArray.toList_eq, ByteArray.toList_eq, strOfNums_data, strOfNums_data]
  unfold sameB
  rw [Bool.eq_iff_iff]
  simp only [beq_iff_eq, decide_eq_true_eq]
  refine ⟨fun h2 => ?_, fun h => by rw [h]⟩
  induction xs generalizing ys with
  | nil => cases ys with
    | nil => rfl
    | cons y ys => simp at h2
  | cons x xs ih => cases ys with
    | nil => simp at h2
    | cons y ys =>
      simp only [List.map_cons, List.cons.injEq] at h2
      rw [num_inj (hx x List.mem_cons_self) (hy y List.mem_cons_self) h2.1, ih (fun v hv => hx v (List.mem_cons_of_mem _ hv)) (fun v hv => hy v (List.mem_cons_of_mem _ hv)) h2.2]
theorem RowB.mem8 {w : World} {A : Option Addr} {n : Nat} {xs : List Int} (h : RowB .u8 w A n xs) : ∀ v ∈ xs, 0 ≤ v ∧ v ≤ 255 := by
  intro v hv
  obtain ⟨i, hi, rfl⟩ := List.getElem_of_mem hv
  have := h.wf8 i (by have := h.len; omega)
  simpa [List.getD, hi] using this
end Go.Proofs.YtejdmpdbapfomaaDoor
