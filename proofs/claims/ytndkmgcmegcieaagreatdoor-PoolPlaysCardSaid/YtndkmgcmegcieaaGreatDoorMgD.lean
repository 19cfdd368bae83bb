/-
  A REGION THAT DRAWS ITS ORDER AND ENDS IN STORES: a condition S on the world, which holds till operation d comes up: what d waits for may be taken first, loads of what d writes too. No program is named.
-/
import Derived.Deep.RegionHeld
import Derived.Deep.MidRow
import Derived.WalkKit
import Derived.Test.YtndkmgcmegcieaaGreatDoorMgA
import Derived.Test.YtndkmgcmegcieaaGreatDoorMgB
import Derived.Deep.AppendLies
import Derived.Laws.CopyRow
import Derived.Test.YtndkmgcmegcieaaGreatDoorMgC
import Derived.Lib.SliceRun
namespace Go.Proofs.YtndkmgcmegcieaaGreatDoor
set_option linter.unusedVariables false
set_option linter.unusedSimpArgs false
theorem all_nil {p : Nat → Prop} : ∀ i ∈ ([] : List Nat), p i := fun _ h => by cases h
theorem all_cons {p : Nat → Prop} {i : Nat} {rs : List Nat} (h : p i) (hs : ∀ j ∈ rs, p j) : ∀ j ∈ i :: rs, p j := fun j hj => by
 rcases List.mem_cons.1 hj with rfl | hj
 ·exact h
 ·exact hs j hj
section
variable {P : Program} {ops : Array Oper} {Q : Exit → Act → World → Prop} {md : Region.Mode} {S : World → Prop} {d : Nat}
def wpAnyD (P : Program) (md : Region.Mode) (ops : Array Oper) (Q : Exit → Act → World → Prop) (S : World → Prop) (d : Nat) : Nat → Array Bool → Act → World → Prop
 | 0, listed, a, w => Region.ready md ops listed = [] ∧ Q .normal a w
 | fuel + 1, listed, a, w =>
  (Region.ready md ops listed = [] → Q .normal a w) ∧
  ∀ i ∈ Region.ready md ops listed, wpOp P ops Q i (fun a' w' => ((listed.setIfInBounds i true).getD d false = false → S w') ∧ wpAnyD P md ops Q S d fuel (listed.setIfInBounds i true) a' w') a w
theorem wpAny_of_D : ∀ (fuel : Nat) (listed : Array Bool) (a : Act) (w : World), wpAnyD P md ops Q S d fuel listed a w → wpAny P md ops Q fuel listed a w
 | 0, _, _, _, h => h
 | fuel + 1, _, _, _, h => ⟨h.1, fun i hi => wpOp_mono (fun a' w' h' => wpAny_of_D fuel _ a' w' h'.2) (h.2 i hi)⟩
def needs (md : Region.Mode) (ops : Array Oper) : Nat → Nat → Nat → Bool
 | 0, _, _ => false
 | f + 1, j, i => match ops[j]? with
  | none => false
  | some o => o.after.any fun e => Region.binds md e && (e.on == i || needs md ops f e.on i)
def ClosedL (md : Region.Mode) (ops : Array Oper) (listed : Array Bool) : Prop :=
 ∀ j o, ops[j]? = some o → listed.getD j false = true → ∀ e ∈ o.after, Region.binds md e = true → listed.getD e.on false = true
theorem closed_start : ClosedL md ops (Array.replicate ops.size false) := fun j o hj h => by
 have : (Array.replicate ops.size false).getD j false = false := by
  simp only [Array.getD_eq_getD_getElem?, Array.getElem?_replicate]
  split <;> rfl
 rw [this] at h; cases h
theorem closed_set {listed : Array Bool} {i : Nat} (h : ClosedL md ops listed) (hi : i ∈ Region.ready md ops listed) : ClosedL md ops (listed.setIfInBounds i true) := fun j o hj hl e he hb => by
 obtain ⟨h0, oi, hoi, hall⟩ := mem_ready.1 hi
 by_cases hji : i = j
 ·subst hji
  rw [hoi] at hj
  cases hj
  exact getD_set_true (hall e he hb)
 ·rw [getD_set_ne false hji] at hl
  exact getD_set_true (h j o hj hl e he hb)
theorem needs_listed {listed : Array Bool} (h : ClosedL md ops listed) : ∀ (f j i : Nat), needs md ops f j i = true → listed.getD j false = true → listed.getD i false = true
 | 0, j, i, hn, _ => by cases hn
 | f + 1, j, i, hn, hl => by
  unfold needs at hn
  cases ho : ops[j]? with
  | none => rw [ho] at hn; cases hn
  | some o =>
   rw [ho] at hn
   obtain ⟨e, he, hb⟩ := Array.any_eq_true'.1 hn
   simp only [Bool.and_eq_true, Bool.or_eq_true, beq_iff_eq] at hb
   have h1 := h j o ho hl e he hb.1
   rcases hb.2 with rfl | h2
   ·exact h1
   ·exact needs_listed h f _ _ h2 h1
theorem not_listed {listed : Array Bool} {i : Nat} (h : listed.getD i true = false) : listed.getD i false = false := by
 rcases Nat.lt_or_ge i listed.size with h' | h'
 ·simp [h'] at h ⊢; exact h
 ·simp [Array.getElem?_eq_none h'] at h
theorem wpAnyD_first {S' : World → Prop} {i : Nat} {oi : Oper} {v : Value} (hi : ops[i]? = some oi) (hsel : ∀ (j : Nat) (o : Oper) cs b, ops[j]? = some o → o.op ≠ .select cs b)
 (hQ : ∀ c a w, Q (.panic c) (a.put oi.dst v) w → Q (.panic c) a w) (hid : i ≠ d)
 (hS' : ∀ (L : Array Bool) (w : World), ClosedL md ops L → L.getD i true = false → (L.getD d false = false → S w) → S' w) :
 ∀ (fuel : Nat) (listed : Array Bool) (a : Act) (w : World), ClosedL md ops listed →
  (∀ j oj, ops[j]? = some oj → j ≠ i → listed.getD j true = false → (∀ e ∈ oj.after, Region.binds md e = true → e.on ≠ i) → oi.apart ops oj = true) →
  i ∈ Region.ready md ops listed → YieldsIf P ops S' oi v a → (listed.getD d false = false → S w) →
  wpAnyD P md ops Q S d fuel (listed.setIfInBounds i true) (a.put oi.dst v) w → wpAnyD P md ops Q S d (fuel + 1) listed a w := by
 intro fuel
 have hset : ∀ (L : Array Bool), (L.setIfInBounds i true).getD d false = L.getD d false := fun L => getD_set_ne false hid
 induction fuel with
 | zero =>
  intro listed a w hc _ hr hy hS H
  refine ⟨fun h => (by rw [h] at hr; cases hr), fun j hj => ?_⟩
  by_cases hji : j = i
  ·subst hji; exact hy.wpOp hi (hS' listed w hc (mem_ready.1 hr).1 hS) ⟨fun h => hS (by rwa [hset] at h), H⟩
  ·have := ready_mono hj hji
   rw [H.1] at this
   cases this
 | succ fuel ih =>
  intro listed a w hc hfree hr hy hS H
  refine ⟨fun h => (by rw [h] at hr; cases hr), fun j hj => ?_⟩
  by_cases hji : j = i
  ·subst hji; exact hy.wpOp hi (hS' listed w hc (mem_ready.1 hr).1 hS) ⟨fun h => hS (by rwa [hset] at h), H⟩
  ·have h1 := H.2 j (ready_mono hj hji)
   obtain ⟨hjun, oj, hoj, hall⟩ := mem_ready.1 hj
   have hnot : ∀ e ∈ oj.after, Region.binds md e = true → e.on ≠ i := fun e he hb heq => by
    have h1 := hall e he hb
    have h0 := (mem_ready.1 hr).1
    rw [heq] at h1
    rw [not_listed h0] at h1
    cases h1
   have h2 := wpOp_putIf hoj (hfree j oj hoj hji hjun hnot) (fun cs b => hsel i oi cs b hi) (fun cs b => hsel j oj cs b hoj) hQ hy h1
   have hfree' : ∀ k ok, ops[k]? = some ok → k ≠ i → (listed.setIfInBounds j true).getD k true = false →
    (∀ e ∈ ok.after, Region.binds md e = true → e.on ≠ i) → oi.apart ops ok = true := fun k ok hk hki hun hno => by
    refine hfree k ok hk hki ?_ hno
    by_cases hjk : j = k
    ·subst hjk; exact hjun
    ·rw [getD_set_ne true hjk] at hun; exact hun
   refine wpOp_mono (fun a' w' h3 => ?_) h2
   have hcomm : (listed.setIfInBounds i true).setIfInBounds j true = (listed.setIfInBounds j true).setIfInBounds i true := Array.setIfInBounds_comm _ _ (Ne.symm hji)
   have hS2 : (listed.setIfInBounds j true).getD d false = false → S w' := fun h => h3.2.1 (by rw [hcomm, hset]; exact h)
   refine ⟨hS2, ih (listed.setIfInBounds j true) a' w' (closed_set hc hj) hfree' (ready_mono hr (Ne.symm hji)) h3.1 hS2 ?_⟩
   rw [← hcomm]
   exact h3.2.2
theorem wpAnyD_take {i : Nat} {oi : Oper} {v : Value} {fuel : Nat} {listed : Array Bool} {a : Act} {w : World} (n : Nat) (hi : ops[i]? = some oi)
 (hn : needs md ops n d i = true) (hc : ClosedL md ops listed)
 (hs : Region.noSelect ops = true) (hf : Region.free md ops listed i = true) (hr : (Region.ready md ops listed).contains i = true) (hid : i ≠ d)
 (hQ : ∀ c a w, Q (.panic c) (a.put oi.dst v) w → Q (.panic c) a w) (hy : YieldsIf P ops S oi v a) (hS : listed.getD d false = false → S w)
 (h : ClosedL md ops (listed.setIfInBounds i true) → wpAnyD P md ops Q S d fuel (listed.setIfInBounds i true) (a.put oi.dst v) w) : wpAnyD P md ops Q S d (fuel + 1) listed a w :=
 have hr' : i ∈ Region.ready md ops listed := by simpa using hr
 wpAnyD_first hi (Region.noSelect_spec hs) hQ hid (fun L w hcL hL hSL => hSL (by
  cases h : L.getD d false with
  | false => rfl
  | true => have := needs_listed hcL n d i hn h; rw [not_listed hL] at this; cases this)) fuel listed a w hc (Region.free_spec hi hf) hr' hy hS (h (closed_set hc hr'))
theorem wpAnyD_pure {i : Nat} {oi : Oper} {v : Value} {fuel : Nat} {listed : Array Bool} {a : Act} {w : World} (hi : ops[i]? = some oi) (hc : ClosedL md ops listed)
 (hs : Region.noSelect ops = true) (hf : Region.free md ops listed i = true) (hr : (Region.ready md ops listed).contains i = true) (hid : i ≠ d)
 (hQ : ∀ c a w, Q (.panic c) (a.put oi.dst v) w → Q (.panic c) a w) (hy : YieldsIf P ops (fun _ => True) oi v a) (hS : listed.getD d false = false → S w)
 (h : ClosedL md ops (listed.setIfInBounds i true) → wpAnyD P md ops Q S d fuel (listed.setIfInBounds i true) (a.put oi.dst v) w) : wpAnyD P md ops Q S d (fuel + 1) listed a w :=
 have hr' : i ∈ Region.ready md ops listed := by simpa using hr
 wpAnyD_first hi (Region.noSelect_spec hs) hQ hid (fun _ _ _ _ _ => trivial) fuel listed a w hc (Region.free_spec hi hf) hr' hy hS (h (closed_set hc hr'))
theorem wpAnyD_one {i : Nat} {o : Oper} {fuel : Nat} {listed : Array Bool} {a : Act} {w : World} (hr : Region.ready md ops listed = [i]) (ho : ops[i]? = some o) (hc : ClosedL md ops listed)
 (h : ∀ K' : Act → World → Prop, Go.Shut (∀ a w, ((listed.setIfInBounds i true).getD d false = false → S w) → (ClosedL md ops (listed.setIfInBounds i true) → wpAnyD P md ops Q S d fuel (listed.setIfInBounds i true) a w) → K' a w) →
   if Region.wanted o (yielded ops a.tmps) = true then Oper.wp P o a w K' Q else K' (a.put o.dst undef) w) : wpAnyD P md ops Q S d (fuel + 1) listed a w :=
 have hm : i ∈ Region.ready md ops listed := by rw [hr]; exact List.mem_singleton.2 rfl
 ⟨fun h0 => (by rw [hr] at h0; cases h0), fun j hj => by
   rw [hr] at hj
   obtain rfl := List.mem_singleton.1 hj
   exact wpOp_step ho (fun K' hK => h K' (fun a w hS hW => hK a w ⟨hS, hW (closed_set hc hm)⟩))⟩
theorem wpAnyD_all {rs : List Nat} {fuel : Nat} {listed : Array Bool} {a : Act} {w : World} (hr : Region.ready md ops listed = rs) (hne : rs ≠ []) (hc : ClosedL md ops listed)
 (h : ∀ i ∈ rs, ∃ o, ops[i]? = some o ∧ ∀ K' : Act → World → Prop, Go.Shut (∀ a w, ((listed.setIfInBounds i true).getD d false = false → S w) → (ClosedL md ops (listed.setIfInBounds i true) → wpAnyD P md ops Q S d fuel (listed.setIfInBounds i true) a w) → K' a w) →
   if Region.wanted o (yielded ops a.tmps) = true then Oper.wp P o a w K' Q else K' (a.put o.dst undef) w) : wpAnyD P md ops Q S d (fuel + 1) listed a w :=
 ⟨fun h0 => (by rw [hr] at h0; exact absurd h0 hne), fun j hj => by
   have hj' := hj
   rw [hr] at hj
   obtain ⟨o, ho, h1⟩ := h j hj
   exact wpOp_step ho (fun K' hK => h1 K' (fun a w hS hW => hK a w ⟨hS, hW (closed_set hc hj')⟩))⟩
theorem wpAnyD_done {listed : Array Bool} {a : Act} {w : World} (hr : Region.ready md ops listed = []) (h : Q .normal a w) :
 ∀ fuel, wpAnyD P md ops Q S d fuel listed a w
 | 0 => ⟨hr, h⟩
 | _ + 1 => ⟨fun _ => h, by rw [hr]; simp⟩
theorem wp_region_D (S : World → Prop) (d : Nat) {id : Nat} {a : Act} {w : World} (hm : P.follows .mixedOrders = true) (hS : S w.drew)
 (h : S w.drew → ClosedL .any ops (Array.replicate ops.size false) → wpAnyD P .any ops Q S d ops.size (Array.replicate ops.size false) a w.drew) : (Code.region id ops true).wp P Q a w :=
 wp_region_any hm (wpAny_of_D _ _ _ _ (h hS closed_start))
end
end Go.Proofs.YtndkmgcmegcieaaGreatDoor
/-
  STEPS OF A DRAWN REGION IN SHORT FORM: under a condition that holds till operation d. No program is named.
-/
namespace Go.Proofs.YtndkmgcmegcieaaGreatDoor
section
variable {P : Program} {ops : Array Oper} {Q : Exit → Act → World → Prop} {md : Region.Mode} {S : World → Prop} {d : Nat}
theorem dP (i : Nat) {oi : Oper} {v : Value} {fuel : Nat} {listed : Array Bool} {a a' : Act} {w : World} (hc : ClosedL md ops listed) (hS : S w) (h : ClosedL md ops (listed.setIfInBounds i true) → wpAnyD P md ops Q S d fuel (listed.setIfInBounds i true) a' w)
 (hi : ops[i]? = some oi := by rfl) (hs : Region.noSelect ops = true := by kernel_rfl) (hf : Region.free md ops listed i = true := by kernel_rfl) (hr : (Region.ready md ops listed).contains i = true := by kernel_rfl) (hid : i ≠ d := by decide) (hQ : ∀ c a w, Q (.panic c) (a.put oi.dst v) w → Q (.panic c) a w := by exact fun _ _ _ h => h)
 (hg : Region.wanted oi (yielded ops a.tmps) = true := by rfl) (hv : ∀ w, (execOp a.eval oi).run P w = .ok (.value v) w := by intro w; go_simp; try with_reducible rfl)
 (ha : a.put oi.dst v = a' := by (try simp only [Act.put, sG1, sG2, sG3, sG4, sG5, sG6]); rfl) : wpAnyD P md ops Q S d (fuel + 1) listed a w :=
 wpAnyD_pure hi hc hs hf hr hid hQ (.inl ⟨hg, fun w _ => hv w⟩) (fun _ => hS) (fun k => ha ▸ h k)
theorem dQ (i : Nat) {oi : Oper} {v : Value} {fuel : Nat} {listed : Array Bool} {a a' : Act} {w : World} (hc : ClosedL md ops listed) (h : ClosedL md ops (listed.setIfInBounds i true) → wpAnyD P md ops Q S d fuel (listed.setIfInBounds i true) a' w)
 (hi : ops[i]? = some oi := by rfl) (hs : Region.noSelect ops = true := by kernel_rfl) (hf : Region.free md ops listed i = true := by kernel_rfl) (hr : (Region.ready md ops listed).contains i = true := by kernel_rfl) (hid : i ≠ d := by decide) (hQ : ∀ c a w, Q (.panic c) (a.put oi.dst v) w → Q (.panic c) a w := by exact fun _ _ _ h => h)
 (hg : Region.wanted oi (yielded ops a.tmps) = true := by rfl) (hv : ∀ w, (execOp a.eval oi).run P w = .ok (.value v) w := by intro w; go_simp; try with_reducible rfl) (hb : listed.getD d false = true := by kernel_rfl)
 (ha : a.put oi.dst v = a' := by (try simp only [Act.put, sG1, sG2, sG3, sG4, sG5, sG6]); rfl) : wpAnyD P md ops Q S d (fuel + 1) listed a w :=
 wpAnyD_pure hi hc hs hf hr hid hQ (.inl ⟨hg, fun w _ => hv w⟩) (fun e => by rw [hb] at e; cases e) (fun k => ha ▸ h k)
theorem dT (i : Nat) {oi : Oper} {v : Value} {fuel : Nat} {listed : Array Bool} {a a' : Act} {w : World} {F : World → Prop} (hc : ClosedL md ops listed) (hS : S w) (hz : ∀ w, S w → F w) (h : ClosedL md ops (listed.setIfInBounds i true) → wpAnyD P md ops Q S d fuel (listed.setIfInBounds i true) a' w)
 (hi : ops[i]? = some oi := by rfl) (hs : Region.noSelect ops = true := by kernel_rfl) (hf : Region.free md ops listed i = true := by kernel_rfl) (hr : (Region.ready md ops listed).contains i = true := by kernel_rfl) (hn : needs md ops 40 d i = true := by kernel_rfl) (hid : i ≠ d := by decide) (hQ : ∀ c a w, Q (.panic c) (a.put oi.dst v) w → Q (.panic c) a w := by exact fun _ _ _ h => h)
 (hg : Region.wanted oi (yielded ops a.tmps) = true := by rfl) (hv : ∀ w, F w → (execOp a.eval oi).run P w = .ok (.value v) w := by intro w hz; go_simp; try with_reducible rfl)
 (ha : a.put oi.dst v = a' := by (try simp only [Act.put, sG1, sG2, sG3, sG4, sG5, sG6]); rfl) : wpAnyD P md ops Q S d (fuel + 1) listed a w :=
 wpAnyD_take 40 hi hn hc hs hf hr hid hQ (.inl ⟨hg, fun w hw => hv w (hz w hw)⟩) (fun _ => hS) (fun k => ha ▸ h k)
end
end Go.Proofs.YtndkmgcmegcieaaGreatDoor
/-
  A ROW THAT BEGINS ANYWHERE IN ITS BLOCK ('s = s[1:]'): what it holds; append to it; a part of a block that is known whole stored anew. No program is named.
-/
namespace Go.Proofs.YtndkmgcmegcieaaGreatDoor
open Go.ChangeShapes Go.WideShapes Go.ChangeAt Go.RowKit Go.Deep
set_option linter.unusedVariables false
set_option linter.unusedSimpArgs false
theorem run_store_part {P : Program} (w : World) (g o : Nat) (t ty : TypeId) (pre old new post : List Value) (v : Value) (hg : w.heap[g]? = some (.cells (pre ++ old ++ post).toArray t (0, 0))) (ho : pre.length = o) (hn : new.length = old.length)
 (hv : v.cells = new.toArray) (hi : (P.info? ty).map (·.size) = some new.length) (h1 : ∀ u ∈ new, u.oneCell' = true) :
 (Instr.storeAt ty (.pointer (some ⟨g, o, none⟩)) v).run P w = .ok () (w.setRow g (pre ++ new ++ post).toArray) := by
 subst ho
 have hst := run_storeCells_at P g pre.length t new 0 _ w hg (by simp; omega) h1
 have e : (pre ++ old ++ post).toArray.toList.take (pre.length + 0) ++ new ++ (pre ++ old ++ post).toArray.toList.drop (pre.length + 0 + new.length) = pre ++ new ++ post := by
  have e1 : (pre ++ old ++ post).take (pre.length + 0) = pre := by rw [Nat.add_zero, List.append_assoc, List.take_left]
  have e2 : (pre ++ old ++ post).drop (pre.length + 0 + new.length) = post := by
   rw [hn, Nat.add_zero, show pre.length + old.length = (pre ++ old).length by simp, List.drop_left]
  simp only [List.toList_toArray, e1, e2]
 rw [e] at hst
 cases hq : P.info? ty with
 | none => simp [hq] at hi
 | some inf =>
  have hs : inf.size = new.length := by simpa [hq] using hi
  simp [Instr.storeAt, Instr.sureAddr, storeVar, sizeOf, typeInfo, hq, hv, hs, hst, Result.andThen]
theorem wp_store_part {P : Program} {o : Oper} {a : Act} {w : World} {K : Act → World → Prop} {Q : Exit → Act → World → Prop} (ty : TypeId) (x y : Operand) (ho : o.op = .store ty x y)
 (g i : Nat) (v : Value) (hx : a.eval x = .pointer (some ⟨g, i, none⟩)) (hy : a.eval y = v) (t : TypeId) (pre old new post : List Value)
 (hg : w.heap[g]? = some (.cells (pre ++ old ++ post).toArray t (0, 0))) (hp : pre.length = i) (hn : new.length = old.length)
 (hv : v.cells = new.toArray) (hi : (P.info? ty).map (·.size) = some new.length) (h1 : ∀ u ∈ new, u.oneCell' = true)
 (h : K (a.put o.dst undef) (w.setRow g (pre ++ new ++ post).toArray)) : o.wp P a w K Q := by
 unfold Oper.wp execOp
 simp only [ho, hx, hy, Sem.run_bind, Sem.run_pure, Result.andThen_ok, run_store_part w g i t ty pre old new post v hg hp hn hv hi h1]
 exact h
theorem wpList_store_part {P : Program} {ops : Array Oper} {rest : List Oper} {o : Oper} {a : Act} {w : World} {Q : Exit → Act → World → Prop} (hgd : Region.wanted o (yielded ops a.tmps) = true) (ty : TypeId) (x y : Operand) (ho : o.op = .store ty x y)
 (g i : Nat) (v : Value) (hx : a.eval x = .pointer (some ⟨g, i, none⟩)) (hy : a.eval y = v) (t : TypeId) (pre old new post : List Value)
 (hg : w.heap[g]? = some (.cells (pre ++ old ++ post).toArray t (0, 0))) (hp : pre.length = i) (hn : new.length = old.length)
 (hv : v.cells = new.toArray) (hi : (P.info? ty).map (·.size) = some new.length) (h1 : ∀ u ∈ new, u.oneCell' = true)
 (h : wpList P ops Q rest (a.put o.dst undef) (w.setRow g (pre ++ new ++ post).toArray)) : wpList P ops Q (o :: rest) a w :=
 wpList_step fun _ hK => by
  rw [if_pos hgd]
  exact wp_store_part ty x y ho g i v hx hy t pre old new post hg hp hn hv hi h1 (hK _ _ h)
theorem step_store_part {P : Program} {ops : Array Oper} {o : Oper} {a : Act} {w : World} {K : Act → World → Prop} {Q : Exit → Act → World → Prop} {E : Prop} (hgd : Region.wanted o (yielded ops a.tmps) = true) (ty : TypeId) (x y : Operand) (ho : o.op = .store ty x y)
 (g i : Nat) (v : Value) (hx : a.eval x = .pointer (some ⟨g, i, none⟩)) (hy : a.eval y = v) (t : TypeId) (pre old new post : List Value)
 (hg : w.heap[g]? = some (.cells (pre ++ old ++ post).toArray t (0, 0))) (hp : pre.length = i) (hn : new.length = old.length)
 (hv : v.cells = new.toArray) (hi : (P.info? ty).map (·.size) = some new.length) (h1 : ∀ u ∈ new, u.oneCell' = true)
 (h : K (a.put o.dst undef) (w.setRow g (pre ++ new ++ post).toArray)) : if Region.wanted o (yielded ops a.tmps) = true then Oper.wp P o a w K Q else E := by
 rw [if_pos hgd]
 exact wp_store_part ty x y ho g i v hx hy t pre old new post hg hp hn hv hi h1 h
def RowAt (w : World) (e : TypeId) (size : Nat) (v : Value) (n : Nat) (xs : List Value) : Prop :=
 xs.length = n * size ∧ ((v = .slice none 0 0 ∧ n = 0) ∨
  ∃ g o cap pre post, v = .slice (some ⟨g, o, none⟩) n cap ∧ pre.length = o ∧ w.heap[g]? = some (.cells (pre ++ xs ++ post).toArray e (0, 0)) ∧ n ≤ cap ∧ cap ≤ maxLen ∧ cap * size ≤ n * size + post.length)
section
variable {w w' : World} {e : TypeId} {size n : Nat} {v : Value} {xs : List Value} {S : Nat → Prop}
theorem RowAt.nil (w : World) (e : TypeId) (size : Nat) : RowAt w e size (.slice none 0 0) 0 [] := ⟨by simp, .inl ⟨rfl, rfl⟩⟩
theorem RowAt.only (h : RowAt w e size v n xs) (ho : Only S w w') (hn : ∀ g, v.ownBlock = some g → ¬ S g) : RowAt w' e size v n xs := by
 refine ⟨h.1, ?_⟩
 rcases h.2 with h0 | ⟨g, o, cap, pre, post, hv, hp, hg, rest⟩
 ·exact .inl h0
 ·exact .inr ⟨g, o, cap, pre, post, hv, hp, ho.at_ hg (hn g (by rw [hv]; rfl)), rest⟩
theorem RowAt.lt (h : RowAt w e size v n xs) : ∀ g, v.ownBlock = some g → g < w.heap.size := fun g hg => by
 rcases h.2 with ⟨rfl, -⟩ | ⟨g', o, cap, pre, post, rfl, hp, hg', rest⟩
 ·cases hg
 ·have : g' = g := by simpa [Value.ownBlock] using hg
  exact this ▸ lt_blk hg'
theorem RowAt.cells (h : RowAt w e size v n xs) (hn : 0 < n) : ∃ g o cap, v = .slice (some ⟨g, o, none⟩) n cap ∧ w.rangeAt g o xs ∧ n ≤ cap ∧ cap ≤ maxLen := by
 rcases h.2 with ⟨-, h0⟩ | ⟨g, o, cap, pre, post, rfl, hp, hg, hc, hm, -⟩
 ·omega
 ·refine ⟨g, o, cap, rfl, fun j u hu => ?_, hc, hm⟩
  have hj : j < xs.length := (List.getElem?_eq_some_iff.1 hu).1
  rw [cell_of_row w g (o + j) _ e (0, 0) hg]
  simp only [List.getElem?_toArray, ← hp]
  rw [List.append_assoc, List.getElem?_append_right (by omega), show pre.length + j - pre.length = j by omega, List.getElem?_append_left hj]
  exact hu
theorem RowAt.form (h : RowAt w e size v n xs) : ∃ A cap, v = .slice A n cap ∧ n ≤ cap ∧ (A = none → n = 0 ∧ cap = 0) := by
 rcases h.2 with ⟨rfl, rfl⟩ | ⟨g, o, cap, pre, post, rfl, hp, hg, hc, hm, -⟩
 ·exact ⟨none, 0, rfl, Nat.le_refl _, fun _ => ⟨rfl, rfl⟩⟩
 ·exact ⟨some ⟨g, o, none⟩, cap, rfl, hc, fun h => by cases h⟩
theorem RowAt.tail {g o cap : Nat} (h : RowAt w e size (.slice (some ⟨g, o, none⟩) (n + 1) cap) (n + 1) xs) : RowAt w e size (.slice (some (if cap = 1 then ⟨g, o, none⟩ else ⟨g, o + size, none⟩)) n (cap - 1)) n (xs.drop size) := by
 obtain ⟨hl, h2⟩ := h
 rcases h2 with ⟨h0, -⟩ | ⟨g', o', cap', pre, post, hv, hp, hg, hc, hm, hr⟩
 ·cases h0
 ·simp only [Value.slice.injEq, Option.some.injEq, Addr.mk.injEq, true_and, and_true] at hv
  obtain ⟨⟨rfl, rfl⟩, rfl⟩ := hv
  have hln : (xs.drop size).length = n * size := by rw [List.length_drop, hl, Nat.succ_mul]; omega
  refine ⟨hln, .inr ?_⟩
  have hx : xs.take size ++ xs.drop size = xs := List.take_append_drop _ _
  have htl : (xs.take size).length = size := by rw [List.length_take, hl, Nat.succ_mul]; omega
  by_cases h1 : cap = 1
  ·subst h1
   rw [if_pos rfl]
   have hn0 : n = 0 := by omega
   subst hn0
   have hd : xs.drop size = [] := List.eq_nil_of_length_eq_zero (by rw [hln]; omega)
   refine ⟨g, o, 0, pre, xs ++ post, by simp, hp, ?_, Nat.le_refl _, by omega, by omega⟩
   rw [hd, List.append_nil, ← List.append_assoc]; exact hg
  ·rw [if_neg h1]
   refine ⟨g, o + size, cap - 1, pre ++ xs.take size, post, rfl, by rw [List.length_append, hp, htl], ?_, by omega, by omega, ?_⟩
   ·rw [List.append_assoc pre, hx]; exact hg
   ·obtain ⟨c, rfl⟩ : ∃ c, cap = c + 1 := ⟨cap - 1, by omega⟩
    rw [Nat.succ_mul, Nat.succ_mul] at hr
    rw [Nat.add_sub_cancel]
    omega
theorem RowAt.of_owns {base : Nat} (h : w.ownsRow base e size v n xs) : RowAt w e size v n xs := by
 refine ⟨h.1, ?_⟩
 rcases h.2 with h0 | ⟨g, cap, cur, hv, hb, hg, hc, hm, hs, ht⟩
 ·exact .inl h0
 ·refine .inr ⟨g, 0, cap, [], cur.toList.drop (n * size), hv, rfl, ?_, hc, hm, ?_⟩
  ·rw [List.nil_append, ← ht, List.take_append_drop]; simpa using hg
  ·have : n * size ≤ cap * size := Nat.mul_le_mul_right _ hc
   rw [List.length_drop, Array.length_toList, hs]; omega
end
theorem run_append_at {P : Program} (w : World) (t ty e : TypeId) (i : TypeInfo) (z : Value) (size bytes : Nat) (ht : P.underlying t = some (.slice e)) (hi : P.info? e = some i) (hz : i.zero = some z)
 (hsize : i.size = size) (hby : i.bytes = bytes) (hzs : z.cells.size = size)
 (v : Value) (n : Nat) (xs : List Value) (hown : RowAt w e size v n xs)
 (ad : Addr) (m c : Nat) (news : List Value) (hl : news.length = m * size) (hnews : ∀ j u, news[j]? = some u → w.cell? (ad.add j) = some u) (h1 : ∀ u ∈ news, u.oneCell' = true)
 (hm : 0 < m) (h63 : n + m ≤ maxLen) (hbytes : (n + m) * bytes ≤ 140737488355328) :
 ∃ g o cap w', (Builtin.append_ #[t, t] ty #[v, .slice (some ad) m c]).run P w = .ok (.slice (some ⟨g, o, none⟩) (n + m) cap) w' ∧
  RowAt w' e size (.slice (some ⟨g, o, none⟩) (n + m) cap) (n + m) (xs ++ news) ∧ w.grownBy w' v.ownBlock ∧ (v.ownBlock = some g ∨ g = w.heap.size) := by
 subst hsize
 subst hby
 have hsmall : n + m ≤ 9223372036854775807 := by simp only [maxLen] at h63; omega
 have hlen : (xs ++ news).length = (n + m) * i.size := by rw [List.length_append, hown.1, hl, Nat.add_mul]
 have grown : ∀ (old : Nat), old < n + m → ∀ (row : Option Nat),
  RowAt (w.drew.alloc (.cells (xs.toArray ++ news.toArray ++ Builtin.zeroCells z.cells (grownCap w (n + m) old e - (n + m))) e)) e i.size
   (.slice (some ⟨w.heap.size, 0, none⟩) (n + m) (grownCap w (n + m) old e)) (n + m) (xs ++ news) ∧
  w.grownBy (w.drew.alloc (.cells (xs.toArray ++ news.toArray ++ Builtin.zeroCells z.cells (grownCap w (n + m) old e - (n + m))) e)) row := by
  intro old ho row
  have hge := grownCap_ge w (n + m) old e
  have hcm : grownCap w (n + m) old e ≤ maxLen := grownCap_le_maxLen w (n + m) old e h63
  refine ⟨⟨hlen, .inr ⟨w.heap.size, 0, _, [], (Builtin.zeroCells z.cells (grownCap w (n + m) old e - (n + m))).toList, rfl, rfl, ?_, hge, hcm, ?_⟩⟩, ⟨rfl, rfl, rfl, by simp, fun k hk _ => heap_alloc_old w.drew _ hk⟩⟩
  ·have := heap_alloc_new w.drew (.cells (xs.toArray ++ news.toArray ++ Builtin.zeroCells z.cells (grownCap w (n + m) old e - (n + m))) e)
   have e1 : ([] ++ (xs ++ news) ++ (Builtin.zeroCells z.cells (grownCap w (n + m) old e - (n + m))).toList).toArray = xs.toArray ++ news.toArray ++ Builtin.zeroCells z.cells (grownCap w (n + m) old e - (n + m)) := by
    apply Array.ext'
    simp
   rw [e1]; exact this
  ·rw [Array.length_toList, size_zeroCells, hzs, ← Nat.add_mul]
   exact Nat.mul_le_mul_right _ (by omega)
 rcases hown.2 with ⟨rfl, rfl⟩ | ⟨g, o, cap, pre, post, rfl, hp, hg, hnc, hcm, hr⟩
 ·have hx : xs = [] := List.eq_nil_of_length_eq_zero (by simpa using hown.1)
  subst hx
  have hr := run_append_nil (P := P) w t ty e i z ht hi hz ad m c news hl hnews (by omega) (by omega) (by have hb := hbytes; simp only [Nat.zero_add] at hb; omega)
  have hgr := grown 0 (by omega) (Value.ownBlock (.slice none 0 0))
  simp only [Nat.zero_add, List.nil_append, Array.empty_append] at hgr ⊢
  exact ⟨_, _, _, _, hr, hgr.1, hgr.2, .inr rfl⟩
 ·have hcells : ∀ j u, xs[j]? = some u → w.cell? ((⟨g, o, none⟩ : Addr).add j) = some u := fun j u hu => by
   have hj : j < xs.length := (List.getElem?_eq_some_iff.1 hu).1
   rw [Addr.add_mid, cell_of_row w g (o + j) _ e (0, 0) hg]
   simp only [List.getElem?_toArray, ← hp]
   rw [List.append_assoc, List.getElem?_append_right (by omega), show pre.length + j - pre.length = j by omega, List.getElem?_append_left hj]
   exact hu
  by_cases hroom : n + m ≤ cap
  ·have hfit : news.length ≤ post.length := by
    have : (n + m) * i.size ≤ cap * i.size := Nat.mul_le_mul_right _ hroom
    rw [Nat.add_mul] at this
    rw [hl]; omega
   have hf := run_firstCells_some (P := P) w i.size m ad m c news hl hnews
   have hst := run_storeCells_at P g (o + n * i.size) e news 0 _ w hg (by simp only [List.size_toArray, List.length_append, hown.1]; omega) h1
   have e1 : (pre ++ xs ++ post).toArray.toList.take (o + n * i.size + 0) ++ news ++ (pre ++ xs ++ post).toArray.toList.drop (o + n * i.size + 0 + news.length) = pre ++ (xs ++ news) ++ post.drop news.length := by
    have hpx : o + n * i.size = (pre ++ xs).length := by rw [List.length_append, hp, hown.1]
    simp only [List.toList_toArray, Nat.add_zero, hpx]
    rw [List.take_left, List.drop_append]
    simp
   rw [e1] at hst
   have hrun : (Builtin.append_ #[t, t] ty #[.slice (some ⟨g, o, none⟩) n cap, .slice (some ad) m c]).run P w = .ok (.slice (some ⟨g, o, none⟩) (n + m) cap) (w.setRow g (pre ++ (xs ++ news) ++ post.drop news.length).toArray) := by
    simp [Builtin.append_, run_underlying ht, sizeOf, typeInfo, hi, Builtin.lenOf, hroom, hf, Addr.add_lit]
    simp at hst
    simp [hst]
   refine ⟨g, o, cap, _, hrun, ⟨hlen, .inr ⟨g, o, cap, pre, post.drop news.length, rfl, hp, setRow_heap w g _ _ e _ hg, hroom, hcm, ?_⟩⟩, ⟨rfl, rfl, rfl, by simp, fun k _ hk => setRow_other w g k _ (fun e => hk (by simp [Value.ownBlock, e]))⟩, .inl rfl⟩
   rw [List.length_drop, hl, Nat.add_mul]
   rw [hl] at hfit
   omega
  ·have hr := run_append_grow (P := P) w t ty e i z ht hi hz ⟨g, o, none⟩ n cap xs hown.1 hcells ad m c news hl hnews (by omega) (by omega) (growslice_fits (by omega) hbytes)
   have hgr := grown cap (by omega) (Value.ownBlock (.slice (some ⟨g, o, none⟩) n cap))
   exact ⟨_, _, _, _, hr, hgr.1, hgr.2, .inr rfl⟩
theorem step_append_at {P : Program} {ops : Array Oper} {o : Oper} {a : Act} {w : World} {K : Act → World → Prop} {Q : Exit → Act → World → Prop} {E : Prop} (hgd : o.guard = none) (s x : Operand) (t : TypeId)
 (ho : o.op = .call { callee := .builtin .append, args := #[s, x], argTypes := #[t, t] })
 (e : TypeId) (i : TypeInfo) (z : Value) (size bytes : Nat) (ht : P.underlying t = some (.slice e)) (hi : P.info? e = some i) (hz : i.zero = some z)
 (hsize : i.size = size) (hby : i.bytes = bytes) (hzs : z.cells.size = size)
 (v : Value) (n : Nat) (xs : List Value) (hs : a.eval s = v) (hown : RowAt w e size v n xs)
 (ad : Addr) (m c : Nat) (news : List Value) (hx : a.eval x = .slice (some ad) m c) (hl : news.length = m * size) (hnews : ∀ j u, news[j]? = some u → w.cell? (ad.add j) = some u) (h1 : ∀ u ∈ news, u.oneCell' = true)
 (hm : 0 < m) (h63 : n + m ≤ maxLen) (hbytes : (n + m) * bytes ≤ 140737488355328)
 (h : ∀ g of cap w', RowAt w' e size (.slice (some ⟨g, of, none⟩) (n + m) cap) (n + m) (xs ++ news) → w.grownBy w' v.ownBlock → (v.ownBlock = some g ∨ g = w.heap.size) → K (a.put o.dst (.slice (some ⟨g, of, none⟩) (n + m) cap)) w') :
 if Region.wanted o (yielded ops a.tmps) = true then Oper.wp P o a w K Q else E := by
 have hw : Region.wanted o (yielded ops a.tmps) = true := by simp [Region.wanted, hgd]
 rw [if_pos hw]
 obtain ⟨g, of, cap, w', hr, h2, h3, h4⟩ := run_append_at (P := P) w t o.type e i z size bytes ht hi hz hsize hby hzs v n xs hown ad m c news hl hnews h1 hm h63 hbytes
 unfold Oper.wp execOp
 simp only [ho, resolve, invoke, builtin, Sem.run_bind, Sem.run_pure, Result.andThen_ok, List.map_toArray, List.map_cons, List.map_nil, hs, hx, hr]
 exact h g of cap w' h2 h3 h4
end Go.Proofs.YtndkmgcmegcieaaGreatDoor
/-
  CONTRACTS of bytes.Clone (any slice), of fq's copied; rows of packets and of items that begin anywhere; the first of slices.Contains, Delete.
-/
namespace Go.Proofs.YtndkmgcmegcieaaGreatDoor
open Go.ChangeShapes Go.WideShapes Go.ChangeAt Go.RowKit Go.Deep
set_option linter.unusedVariables false
set_option linter.unusedSimpArgs false
def OwnV (w : World) (B : Nat) (v : Value) (xs : List Int) : Prop := w.ownsRow B 5 1 v xs.length (xs.map (Value.int .u8))
theorem owns_form {w : World} {B n size : Nat} {e : TypeId} {v : Value} {xs : List Value} (h : w.ownsRow B e size v n xs) : ∃ A c, v = .slice A n c ∧ n ≤ c := by
 rcases h.2 with ⟨rfl, rfl⟩ | ⟨g, cap, cur, rfl, -, -, hc, -⟩
 ·exact ⟨none, 0, rfl, Nat.le_refl _⟩
 ·exact ⟨_, _, rfl, hc⟩
theorem owns_setRow {w : World} {B n m h : Nat} {e : TypeId} {v : Value} {xs : List Value} {cs : Array Value} (ho : w.ownsRow B e m v n xs) (hh : ∀ g, v.ownBlock = some g → g ≠ h) : (w.setRow h cs).ownsRow B e m v n xs :=
 owns_only ho ((Only.refl (· = h) w).setRow (fun _ => rfl) cs) fun g hg e => hh g hg e
theorem owns_below {w w' : World} {B n m : Nat} {e : TypeId} {v : Value} {xs : List Value} (ho : w.ownsRow B e m v n xs) (hb : Below w.heap.size w w') : w'.ownsRow B e m v n xs :=
 owns_only (S := fun _ => False) ho (Only.of_quiet hb) fun _ _ h => h
theorem OwnV.el {T : Nat → Prop} {w : World} {B : Nat} {v : Value} {xs : List Int} (h : OwnV w B v xs) (hl : xs.length ≤ maxLen) (hw : ∀ i, i < xs.length → IntKind.u8.min ≤ xs.getD i 0 ∧ xs.getD i 0 ≤ IntKind.u8.max) (hT : ∀ g, v.ownBlock = some g → T g) : ElK T w v xs := by
 rcases h.2 with ⟨rfl, h0⟩ | ⟨g, cap, cur, rfl, hb, hg, hc, hm, hs, ht⟩
 ·have : xs = [] := List.eq_nil_of_length_eq_zero h0
  subst this
  exact ElK.nil T w
 ·have hO : OwnB w B 5 .u8 g xs.length cap xs := h
  exact ElK.of (hO.row hw) hc fun _ p hp => by cases hp; exact hT g rfl
set_option maxRecDepth 100000 in
set_option maxHeartbeats 4000000 in
theorem clone_any (A : Option Addr) (n c : Nat) (xs : List Int) (w : World) (h : RowB .u8 w A n xs) (hn : n ≤ 1000000000) :
 Calls Tryz.prog 90 #[.slice A n c] w fun e w' => ∃ v, e = .returned v ∧ OwnV w' w.heap.size v xs ∧ Below w.heap.size w w' := by
 obtain rfl := h.len
 cases A with
 | none =>
  have h0 : xs = [] := by
   by_cases hp : 0 < xs.length
   ·obtain ⟨b, off, e, -⟩ := h.cells hp; cases e
   ·exact List.eq_nil_of_length_eq_zero (by omega)
  subst h0
  have hq := Lib.run_eql_slice_nil (P := Tryz.prog) w 33 5 none 0 c 0 0 Tryz.underlying33
  simp only [Option.isNone_none] at hq
  clear h
  simp only [List.length_nil] at *
  go_enter Tryz.func90, Tryz.ntmps90
  go_wp2
  go_ret
  exact ⟨_, rfl, World.ownsRow_nil _ _ _ _, Below.refl _ _⟩
 | some ad =>
  obtain ⟨i0, hi0, hz0, hz1, hz2⟩ := info_parts' byte_info
  have HN := Shut.mk (show ∀ j u, (xs.map (Value.int .u8))[j]? = some u → (w.alloc (.cells #[] 5)).cell? (ad.add j) = some u from fun j u hu => by
   simp only [List.getElem?_map, Option.map_eq_some_iff] at hu
   obtain ⟨x, hx, rfl⟩ := hu
   have hj : j < xs.length := (List.getElem?_eq_some_iff.1 hx).1
   obtain ⟨b', off', e, hc⟩ := h.el j hj
   cases e
   rw [Addr.add_mid]
   have hx' : xs.getD j 0 = x := by simp [List.getD, hx]
   rw [hx'] at hc
   exact below_at ((Below.refl w.heap.size w).alloc (Nat.le_refl _) _) hc)
  have HO := Shut.mk (show (w.alloc (.cells #[] 5)).ownsRow w.heap.size 5 1 (.slice (some ⟨w.heap.size, 0, none⟩) 0 0) 0 [] from World.ownsRow_lit w #[] 0 (Nat.le_refl _) (by unfold maxLen; omega) rfl)
  have HB := Shut.mk ((Below.refl w.heap.size w).alloc (Nat.le_refl _) (.cells #[] 5))
  have hq := Lib.run_eql_slice_nil (P := Tryz.prog) w 33 5 (some ad) xs.length c 0 0 Tryz.underlying33
  simp only [Option.isNone_some] at hq
  have HZ := Shut.mk (show (xs.map (Value.int .u8)).length = xs.length * 1 by simp)
  clear h
  go_enter Tryz.func90, Tryz.ntmps90
  go_wp2_with (at_builtin; refine wpList_append_own _ rfl (.tmp 5) (.tmp 6) 33 rfl w.heap.size 5 i0 _ 1 1 Tryz.underlying33 hi0 hz0 hz1 hz2 rfl (by omega) (.slice (some ⟨w.heap.size, 0, none⟩) 0 0) 0 [] rfl HO.out ad xs.length c (xs.map (Value.int .u8)) rfl HZ.out HN.out (by intro u hu; simp at hu; obtain ⟨x, _, rfl⟩ := hu; rfl) (by unfold maxLen; omega) (by omega) (by simp) ?_; intro v' w2 hown' hgrow' hnil)
  have HB3 := Shut.mk (HB.out.grown hgrow' (by simp) (by intro q hq; simp [Value.ownBlock] at hq; omega))
  have HO3 := Shut.mk (show OwnV w2 w.heap.size v' xs by have := hown'; rw [Nat.zero_add] at this; exact this)
  obtain ⟨A', c', e', -⟩ := owns_form hown'
  clear hown' hgrow' hnil
  subst e'
  go_wp2
  go_ret
  exact ⟨_, rfl, HO3.out, HB3.out⟩
set_option maxRecDepth 100000 in
set_option maxHeartbeats 8000000 in
theorem copied_any (p : Pk) (A : Option Addr) (n c : Nat) (w : World) (h : RowB .u8 w A n p.body) (hn : n ≤ 1000000000) :
 Calls Tryz.prog 73 #[pkV p (.slice A n c)] w fun e w' => ∃ v, e = .returned (pkV p v) ∧ OwnV w' w.heap.size v p.body ∧ Below w.heap.size w w' := by
 obtain ⟨pi, pf, pt, pa, pb⟩ := p
 unfold pkV
 have HR := Shut.mk h
 have HN := Shut.mk hn
 clear h
 go_enter Tryz.func73, Tryz.ntmps73
 have H2 := Shut.mk (two_alloc w (Obj.cells #[.int .i64 pi, .int .u32 pf, .int .i64 pt, .int .i64 pa, .slice A n c] 35 (0, 0)) (Obj.cells #[.int .i64 0, .int .u32 0, .int .i64 0, .int .i64 0, .slice none 0 0] 35 (0, 0)))
 go_wp2_with (fail)
 generalize (w.alloc _).alloc _ = w1 at *
 refine (clone_any A n c pb _ (HR.out.below H2.out.1) HN.out).mono ?_
 rintro e w2 ⟨v, rfl, hO, hB⟩
 have HO := Shut.mk hO
 have HB := Shut.mk hB
 have HS := Shut.mk H2.out.2.2.2
 have HBX := Shut.mk ((hB.block _ (lt_blk H2.out.2.1)).trans H2.out.2.1)
 have HRX := Shut.mk ((hB.block _ (lt_blk H2.out.2.2.1)).trans H2.out.2.2.1)
 have HBW := Shut.mk (H2.out.1.trans (hB.mono (Nat.le_of_lt (by rw [H2.out.2.2.2]; omega))))
 obtain ⟨A', c', e', -⟩ := owns_form hO
 subst e'
 clear hO hB
 generalize hs0 : w.heap.size = s at *
 obtain ⟨v', hv'⟩ : ∃ v', v' = Value.slice A' pb.length c' := ⟨_, rfl⟩
 have HV := Shut.mk hv'
 have HX1 := Shut.mk (setRow_heap w2 s _ #[.int .i64 pi, .int .u32 pf, .int .i64 pt, .int .i64 pa, Value.slice A' pb.length c'] _ (0, 0) HBX.out)
 have HX2 := Shut.mk ((setRow_other w2 s (s + 1) #[.int .i64 pi, .int .u32 pf, .int .i64 pt, .int .i64 pa, Value.slice A' pb.length c'] (by omega)).trans HRX.out)
 have HX3 := Shut.mk (setRow_heap (w2.setRow s #[.int .i64 pi, .int .u32 pf, .int .i64 pt, .int .i64 pa, Value.slice A' pb.length c']) (s + 1) _ #[.int .i64 pi, .int .u32 pf, .int .i64 pt, .int .i64 pa, Value.slice A' pb.length c'] _ (0, 0) HX2.out)
 have HGE := Shut.mk (show ∀ g, (Value.slice A' pb.length c').ownBlock = some g → s + 2 ≤ g from fun g hg => by have := (World.ownsRow.lt HO.out g hg).1; rw [HS.out] at this; exact this)
 have HOE : Shut (OwnV ((w2.setRow s #[.int .i64 pi, .int .u32 pf, .int .i64 pt, .int .i64 pa, Value.slice A' pb.length c']).setRow (s + 1) #[.int .i64 pi, .int .u32 pf, .int .i64 pt, .int .i64 pa, Value.slice A' pb.length c']) s (Value.slice A' pb.length c') pb) :=
  ⟨owns_setRow (owns_setRow (owns_base HO.out (by rw [HS.out]; omega)) (fun g hg => by have := HGE.out g hg; omega)) (fun g hg => by have := HGE.out g hg; omega)⟩
 have HBE := Shut.mk (below_setRow (below_setRow HBW.out (g := s) (Nat.le_refl _) #[.int .i64 pi, .int .u32 pf, .int .i64 pt, .int .i64 pa, Value.slice A' pb.length c']) (g := s + 1) (by omega) #[.int .i64 pi, .int .u32 pf, .int .i64 pt, .int .i64 pa, Value.slice A' pb.length c'])
 clear HV hv'
 go_wp2_with (first
  | (refine wpList_store_into rfl 33 (.tmp 6) (.tmp 5) rfl s 4 (Value.slice A' pb.length c') rfl rfl rfl 35 _ #[.int .i64 pi, .int .u32 pf, .int .i64 pt, .int .i64 pa, Value.slice A' pb.length c'] HBX.out rfl (by show 4 < 5; omega) rfl ?_)
  | (refine wpList_load_row rfl 35 (.tmp 1) rfl s rfl 35 #[.int .i64 pi, .int .u32 pf, .int .i64 pt, .int .i64 pa, Value.slice A' pb.length c'] (0, 0) _ HX1.out Tryz.underlying35 rfl size5 ?_)
  | (refine wpList_store_row rfl 35 (.tmp 2) (.tmp 7) rfl (s + 1) #[.int .i64 pi, .int .u32 pf, .int .i64 pt, .int .i64 pa, Value.slice A' pb.length c'] rfl rfl 35 _ HX2.out size5 rfl (pkt_one _ _ _ _ _ _ _) ?_))
 exact bodyPost_ret (v := .agg #[.int .i64 pi, .int .u32 pf, .int .i64 pt, .int .i64 pa, Value.slice A' pb.length c']) (results_cell1 (p := 2) Tryz.results73 _ _ (s + 1) _ _ _ _ rfl HX3.out Tryz.underlying35 rfl size5) rfl ⟨_, rfl, by rw [hs0]; exact HOE.out, by rw [hs0]; exact HBE.out⟩
end Go.Proofs.YtndkmgcmegcieaaGreatDoor
/-
  ROWS of packets and of items that begin anywhere: what they keep, their first, their rest, append of one; a flow of fq's queue inside its block: its cells, a field stored anew.
-/
namespace Go.Proofs.YtndkmgcmegcieaaGreatDoor
open Go.ChangeShapes Go.WideShapes Go.ChangeAt Go.RowKit Go.Deep
set_option linter.unusedVariables false
set_option linter.unusedSimpArgs false
theorem only_setRow (w : World) (g : Nat) (cs : Array Value) : Only (· = g) w (w.setRow g cs) := (Only.refl (· = g) w).setRow (g := g) (fun _ => rfl) cs
theorem past {b : Bool} {p : Prop} (h : b = true) : b = false → p := fun h2 => by rw [h] at h2; cases h2
theorem set_mid {pre mid mid' post : List Value} {o j : Nat} {v : Value} (ho : pre.length = o) (hj : j < mid.length) (hm : mid.set j v = mid') :
 (pre ++ mid ++ post).toArray.setIfInBounds (o + j) v = (pre ++ mid' ++ post).toArray := by
 subst ho
 subst hm
 apply Array.ext'
 rw [Array.toList_setIfInBounds]
 simp only [List.toList_toArray]
 rw [List.append_assoc, List.set_append_right _ _ (by omega), show pre.length + j - pre.length = j by omega, List.set_append_left _ _ hj, List.append_assoc]
theorem mid_cell {w : World} {g o : Nat} {t : TypeId} {pre mid post : List Value} (hg : w.heap[g]? = some (.cells (pre ++ mid ++ post).toArray t (0, 0))) (ho : pre.length = o) {j : Nat} {v : Value} (hv : mid[j]? = some v) :
 w.cell? ⟨g, o + j, none⟩ = some v := by
 have hj := (List.getElem?_eq_some_iff.1 hv).1
 rw [cell_of_row w g (o + j) _ t (0, 0) hg]
 simp only [List.getElem?_toArray, ← ho]
 rw [List.append_assoc, List.getElem?_append_right (by omega), show pre.length + j - pre.length = j by omega, List.getElem?_append_left hj]
 exact hv
theorem mid_range {w : World} {g o : Nat} {t : TypeId} {pre mid post : List Value} (hg : w.heap[g]? = some (.cells (pre ++ mid ++ post).toArray t (0, 0))) (ho : pre.length = o) {j : Nat} {cs : List Value} (hv : ∀ i u, cs[i]? = some u → mid[j + i]? = some u) :
 w.rangeAt g (o + j) cs := fun i u hu => by rw [Nat.add_assoc]; exact mid_cell hg ho (hv i u hu)
theorem wp_store_fld {P : Program} {o : Oper} {a : Act} {w : World} {K : Act → World → Prop} {Q : Exit → Act → World → Prop} (ty : TypeId) (x y : Operand) (ho : o.op = .store ty x y)
 (g i j : Nat) (v : Value) (hx : a.eval x = .pointer (some ⟨g, i + j, none⟩)) (hy : a.eval y = v) (h1 : v.oneCell' = true) (t : TypeId) (pre mid mid' post : List Value)
 (hg : w.heap[g]? = some (.cells (pre ++ mid ++ post).toArray t (0, 0))) (hp : pre.length = i) (hi : (P.info? ty).map (·.size) = some 1) (hj : j < mid.length) (hm : mid.set j v = mid')
 (h : K (a.put o.dst undef) (w.setRow g (pre ++ mid' ++ post).toArray)) : o.wp P a w K Q := by
 unfold Oper.wp execOp
 simp only [ho, hx, hy, Sem.run_bind, Sem.run_pure, Result.andThen_ok, run_storeAt_into w g (i + j) t ty _ _ v hg hi (by simp; omega) h1 (set_mid hp hj hm)]
 exact h
theorem wpList_store_fld {P : Program} {ops : Array Oper} {rest : List Oper} {o : Oper} {a : Act} {w : World} {Q : Exit → Act → World → Prop} (hgd : Region.wanted o (yielded ops a.tmps) = true) (ty : TypeId) (x y : Operand) (ho : o.op = .store ty x y)
 (g i j : Nat) (v : Value) (hx : a.eval x = .pointer (some ⟨g, i + j, none⟩)) (hy : a.eval y = v) (h1 : v.oneCell' = true) (t : TypeId) (pre mid mid' post : List Value)
 (hg : w.heap[g]? = some (.cells (pre ++ mid ++ post).toArray t (0, 0))) (hp : pre.length = i) (hi : (P.info? ty).map (·.size) = some 1) (hj : j < mid.length) (hm : mid.set j v = mid')
 (h : wpList P ops Q rest (a.put o.dst undef) (w.setRow g (pre ++ mid' ++ post).toArray)) : wpList P ops Q (o :: rest) a w :=
 wpList_step fun _ hK => by
  rw [if_pos hgd]
  exact wp_store_fld ty x y ho g i j v hx hy h1 t pre mid mid' post hg hp hi hj hm (hK _ _ h)
theorem step_store_fld {P : Program} {ops : Array Oper} {o : Oper} {a : Act} {w : World} {K : Act → World → Prop} {Q : Exit → Act → World → Prop} {E : Prop} (hgd : Region.wanted o (yielded ops a.tmps) = true) (ty : TypeId) (x y : Operand) (ho : o.op = .store ty x y)
 (g i j : Nat) (v : Value) (hx : a.eval x = .pointer (some ⟨g, i + j, none⟩)) (hy : a.eval y = v) (h1 : v.oneCell' = true) (t : TypeId) (pre mid mid' post : List Value)
 (hg : w.heap[g]? = some (.cells (pre ++ mid ++ post).toArray t (0, 0))) (hp : pre.length = i) (hi : (P.info? ty).map (·.size) = some 1) (hj : j < mid.length) (hm : mid.set j v = mid')
 (h : K (a.put o.dst undef) (w.setRow g (pre ++ mid' ++ post).toArray)) : if Region.wanted o (yielded ops a.tmps) = true then Oper.wp P o a w K Q else E := by
 rw [if_pos hgd]
 exact wp_store_fld ty x y ho g i j v hx hy h1 t pre mid mid' post hg hp hi hj hm h
def RowPk (T : Nat → Prop) (w : World) (v : Value) (l : List Pk) : Prop :=
 ∃ l' : List (Pk × Value), RowAt w 35 5 v l'.length (l'.flatMap (FK pkC)) ∧ l'.map Prod.fst = l ∧ ∀ p ∈ l', ElK T w p.2 p.1.body
def RowIt (w : World) (v : Value) (l : List It) : Prop := RowAt w 103 2 v l.length (l.flatMap itC)
section
variable {T T' S : Nat → Prop} {w w' : World} {v : Value} {l : List Pk} {il : List It}
theorem RowPk.nil (T : Nat → Prop) (w : World) : RowPk T w (.slice none 0 0) [] := ⟨[], RowAt.nil _ _ _, rfl, fun p hp => by cases hp⟩
theorem RowIt.nil (w : World) : RowIt w (.slice none 0 0) [] := RowAt.nil _ _ _
theorem RowPk.only (h : RowPk T w v l) (ho : Only S w w') (hn : ∀ g, v.ownBlock = some g → ¬ S g) (hs : ∀ k, T k → ¬ S k) : RowPk T w' v l := by
 obtain ⟨l', h1, h2, h3⟩ := h
 exact ⟨l', h1.only ho hn, h2, fun p hp => (h3 p hp).only ho hs⟩
theorem RowPk.mono (h : RowPk T w v l) (hs : ∀ k, T k → T' k) : RowPk T' w v l := by
 obtain ⟨l', h1, h2, h3⟩ := h
 exact ⟨l', h1, h2, fun p hp => (h3 p hp).mono fun k _ => hs k⟩
theorem RowIt.only (h : RowIt w v il) (ho : Only S w w') (hn : ∀ g, v.ownBlock = some g → ¬ S g) : RowIt w' v il := RowAt.only h ho hn
theorem RowPk.lt (h : RowPk T w v l) : ∀ g, v.ownBlock = some g → g < w.heap.size := by
 obtain ⟨l', h1, h2, h3⟩ := h
 exact h1.lt
theorem RowIt.lt (h : RowIt w v il) : ∀ g, v.ownBlock = some g → g < w.heap.size := RowAt.lt h
theorem RowPk.form (h : RowPk T w v l) : ∃ A cap, v = .slice A l.length cap ∧ l.length ≤ cap ∧ (A = none → cap = 0) := by
 obtain ⟨l', h1, rfl, h3⟩ := h
 obtain ⟨A, cap, rfl, hc, hn⟩ := h1.form
 exact ⟨A, cap, by rw [List.length_map], by rw [List.length_map]; exact hc, fun e => (hn e).2⟩
theorem RowIt.form (h : RowIt w v il) : ∃ A cap, v = .slice A il.length cap ∧ il.length ≤ cap ∧ (A = none → cap = 0) := by
 obtain ⟨A, cap, rfl, hc, hn⟩ := RowAt.form h
 exact ⟨A, cap, rfl, hc, fun e => (hn e).2⟩
theorem RowPk.one (h : RowPk T w v l) : v.oneCell' = true := by obtain ⟨A, c, rfl, -⟩ := h.form; rfl
theorem RowIt.one (h : RowIt w v il) : v.oneCell' = true := by obtain ⟨A, c, rfl, -⟩ := h.form; rfl
theorem flatF_len {α : Type} {F : α → List Value} {s : Nat} (hF : ∀ a, (F a).length = s) : ∀ l : List α, (l.flatMap F).length = l.length * s
 | [] => by simp
 | a :: l => by rw [List.flatMap_cons, List.length_append, hF, flatF_len hF l, List.length_cons, Nat.succ_mul]; omega
theorem RowAt.rowS {α : Type} {F : α → List Value} {s : Nat} {d : α} {e : TypeId} {l : List α} {A : Option Addr} {c : Nat} (h : RowAt w e s (.slice A l.length c) l.length (l.flatMap F)) (hF : ∀ a, (F a).length = s) (hl : l.length ≤ maxLen) : RowS F s d w A l.length l := by
 refine ⟨rfl, hl, fun hp => ?_⟩
 obtain ⟨g, o, cap, e1, hr, -, -⟩ := h.cells hp
 cases e1
 refine ⟨g, o, rfl, fun i hi j u hu => ?_⟩
 have hj : j < s := by have := (List.getElem?_eq_some_iff.1 hu).1; rwa [hF] at this
 have := hr (i * s + j) u (by rw [flat_at (d := d) hF l i j hi hj]; exact hu)
 rwa [← Nat.add_assoc] at this
theorem RowIt.rowS {A : Option Addr} {c : Nat} (h : RowIt w (.slice A il.length c) il) (hl : il.length ≤ maxLen) : RowS itC 2 it00 w A il.length il := RowAt.rowS h (fun _ => rfl) hl
theorem RowPk.row {A : Option Addr} {c : Nat} (h : RowPk T w (.slice A l.length c) l) (hl : l.length ≤ maxLen) : RowP T w A l := by
 obtain ⟨l', h1, rfl, h3⟩ := h
 rw [List.length_map] at h1 hl
 have := RowAt.rowS (d := pk00) h1 (fun _ => rfl) hl
 exact ⟨l', by rw [List.length_map]; exact this, rfl, h3⟩
theorem RowPk.first {p : Pk} {r : List Pk} (h : RowPk T w v (p :: r)) : ∃ g o cap u pre post, v = .slice (some ⟨g, o, none⟩) (r.length + 1) cap ∧ r.length + 1 ≤ cap ∧ pre.length = o ∧
 w.heap[g]? = some (.cells (pre ++ pkC p u ++ post).toArray 35 (0, 0)) ∧ ElK T w u p.body ∧
 ∀ (w2 : World) (cs : List Value), cs.length = 5 → (∀ k, T k → k ≠ g) → w2 = w.setRow g (pre ++ cs ++ post).toArray → RowPk T w2 (.slice (some (if cap = 1 then ⟨g, o, none⟩ else ⟨g, o + 5, none⟩)) r.length (cap - 1)) r := by
 obtain ⟨l', h1, h2, h3⟩ := h
 cases l' with
 | nil => cases h2
 | cons x r' =>
  obtain ⟨q, u⟩ := x
  simp only [List.map_cons, List.cons.injEq] at h2
  obtain ⟨rfl, rfl⟩ := h2
  rw [List.length_cons] at h1
  obtain ⟨hl, h4⟩ := h1
  rcases h4 with ⟨-, h0⟩ | ⟨g, o, cap, pre, post, rfl, hp, hg, hc, hm, hr⟩
  ·omega
  ·have e1 : pre ++ ((q, u) :: r').flatMap (FK pkC) ++ post = pre ++ pkC q u ++ (r'.flatMap (FK pkC) ++ post) := by
    rw [List.flatMap_cons]; simp [FK]
   rw [e1] at hg
   refine ⟨g, o, cap, u, pre, r'.flatMap (FK pkC) ++ post, by rw [List.length_map], by rw [List.length_map]; exact hc, hp, hg, h3 _ List.mem_cons_self, fun w2 cs hcs hTg hw2 => ?_⟩
   have hx : RowAt w2 35 5 (.slice (some ⟨g, o, none⟩) (r'.length + 1) cap) (r'.length + 1) (cs ++ r'.flatMap (FK pkC)) := by
    refine ⟨?_, .inr ⟨g, o, cap, pre, post, rfl, hp, ?_, hc, hm, hr⟩⟩
    ·rw [List.length_append, hcs, flatF_len (s := 5) (fun _ => rfl), Nat.succ_mul]; omega
    ·rw [hw2]
     have := setRow_heap w g _ (pre ++ cs ++ (r'.flatMap (FK pkC) ++ post)).toArray _ (0, 0) hg
     simpa [List.append_assoc] using this
   have ht := hx.tail
   rw [List.drop_append_of_le_length (by omega), List.drop_of_length_le (by omega), List.nil_append] at ht
   refine ⟨r', by rw [List.length_map]; exact ht, rfl, fun p hp => ?_⟩
   refine (h3 p (List.mem_cons_of_mem _ hp)).only (S := (· = g)) ?_ (fun k hk e => hTg k hk e)
   rw [hw2]
   exact only_setRow _ _ _
theorem RowIt.tail {x : It} {r : List It} (h : RowIt w v (x :: r)) : ∃ g o cap, v = .slice (some ⟨g, o, none⟩) (r.length + 1) cap ∧ r.length + 1 ≤ cap ∧ RowIt w (.slice (some (if cap = 1 then ⟨g, o, none⟩ else ⟨g, o + 2, none⟩)) r.length (cap - 1)) r := by
 have h' : RowAt w 103 2 v (r.length + 1) (itC x ++ r.flatMap itC) := h
 obtain ⟨g, o, cap, rfl, -, hc, -⟩ := h'.cells (by omega)
 refine ⟨g, o, cap, rfl, hc, ?_⟩
 have ht := h'.tail
 rw [List.drop_append_of_le_length (by show 2 ≤ 2; omega)] at ht
 have e : (itC x).drop 2 = [] := rfl
 rw [e, List.nil_append] at ht
 exact ht
end
theorem item_info' : (Tryz.prog.info? 103).map (fun i => (i.zero, i.size, i.bytes)) = some (some (.agg #[.int .i64 0, .int .i64 0]), 2, 16) := by kernel_rfl
theorem step_app_pk {ops : Array Oper} {o : Oper} {a : Act} {w : World} {K : Act → World → Prop} {Q : Exit → Act → World → Prop} {E : Prop} {T T' : Nat → Prop} (hgd : o.guard = none) (s x : Operand)
 (ho : o.op = .call { callee := .builtin .append, args := #[s, x], argTypes := #[40, 40] })
 (lv : Value) (l : List Pk) (hs : a.eval s = lv) (hP : RowPk T w lv l) (u : Pk) (y : Value) (ad : Addr) (c : Nat) (hx : a.eval x = .slice (some ad) 1 c) (hc : ∀ j q, (pkC u y)[j]? = some q → w.cell? (ad.add j) = some q) (hu : ElK T' w y u.body)
 (hTT : ∀ k, T k → T' k) (hd : ∀ k, lv.ownBlock = some k → ¬ T' k) (hk : l.length ≤ 1000000)
 (h : ∀ v w', RowPk T' w' v (l ++ [u]) → Only (fun j => lv.ownBlock = some j) w w' → (∀ g, v.ownBlock = some g → lv.ownBlock = some g ∨ g = w.heap.size) → K (a.put o.dst v) w') :
 if Region.wanted o (yielded ops a.tmps) = true then Oper.wp Tryz.prog o a w K Q else E := by
 obtain ⟨i0, hi0, hz0, hz1, hz2⟩ := info_parts' pkt_info
 obtain ⟨l', h1, rfl, h3⟩ := hP
 rw [List.length_map] at hk
 have hone : ∀ q ∈ pkC u y, q.oneCell' = true := by
  obtain ⟨a, m, c, rfl, _⟩ := hu
  exact pkC_one _ _ _ _
 refine step_append_at hgd s x 40 ho 35 i0 (.agg #[.int .i64 0, .int .u32 0, .int .i64 0, .int .i64 0, .slice none 0 0]) 5 56 Tryz.underlying40 hi0 hz0 hz1 hz2 rfl lv l'.length _ hs h1 ad 1 c (pkC u y) hx rfl hc hone (by omega) (by unfold maxLen; omega) (by omega) ?_
 intro g of cap w' h4 h5 h6
 have hO : Only (fun k => lv.ownBlock = some k) w w' := (Only.refl _ w).grown h5 fun k hk _ => hk
 have hs' : ∀ k, T' k → ¬ lv.ownBlock = some k := fun k hk e => hd k e hk
 refine h _ w' ⟨l' ++ [(u, y)], ?_, by simp, fun p hp => ?_⟩ hO fun g' hg' => ?_
 ·rw [List.flatMap_append, List.length_append]
  simpa [FK] using h4
 ·rcases List.mem_append.1 hp with hp | hp
  ·exact ((h3 p hp).mono fun k _ => hTT k).only hO hs'
  ·rw [List.mem_singleton.1 hp]; exact hu.only hO hs'
 ·have e1 : g' = g := by simpa [Value.ownBlock] using hg'.symm
  rw [e1]; exact h6
theorem step_app_it {ops : Array Oper} {o : Oper} {a : Act} {w : World} {K : Act → World → Prop} {Q : Exit → Act → World → Prop} {E : Prop} (hgd : o.guard = none) (s x : Operand)
 (ho : o.op = .call { callee := .builtin .append, args := #[s, x], argTypes := #[91, 91] })
 (lv : Value) (l : List It) (hs : a.eval s = lv) (hP : RowIt w lv l) (u : It) (ad : Addr) (c : Nat) (hx : a.eval x = .slice (some ad) 1 c) (hc : ∀ j q, (itC u)[j]? = some q → w.cell? (ad.add j) = some q)
 (hk : l.length ≤ 1000000)
 (h : ∀ v w', RowIt w' v (l ++ [u]) → Only (fun j => lv.ownBlock = some j) w w' → (∀ g, v.ownBlock = some g → lv.ownBlock = some g ∨ g = w.heap.size) → K (a.put o.dst v) w') :
 if Region.wanted o (yielded ops a.tmps) = true then Oper.wp Tryz.prog o a w K Q else E := by
 obtain ⟨i0, hi0, hz0, hz1, hz2⟩ := info_parts' item_info'
 have hone : ∀ q ∈ itC u, q.oneCell' = true := by
  intro v hv
  simp [itC] at hv
  rcases hv with rfl | rfl <;> rfl
 refine step_append_at hgd s x 91 ho 103 i0 (.agg #[.int .i64 0, .int .i64 0]) 2 16 Tryz.underlying91 hi0 hz0 hz1 hz2 rfl lv l.length _ hs hP ad 1 c (itC u) hx rfl hc hone (by omega) (by unfold maxLen; omega) (by omega) ?_
 intro g of cap w' h4 h5 h6
 refine h _ w' ?_ ((Only.refl _ w).grown h5 fun k hk _ => hk) fun g' hg' => ?_
 ·unfold RowIt
  rw [List.flatMap_append, List.length_append]
  simpa using h4
 ·have e1 : g' = g := by simpa [Value.ownBlock] using hg'.symm
  rw [e1]; exact h6
def fcR (vp vi : Value) (n df : Int) (c : Cd) : List Value := [vp, vi, .int .i64 n, .int .i64 df, .int .i64 c.first, .int .i64 c.drop, .int .u32 (c.count : Nat), .int .u32 (c.last : Nat), .bool c.on]
structure FlB (T : Nat → Prop) (w : World) (g : Nat) (tq : TypeId) (pre post : List Value) (vp vi : Value) (l : List Pk) (il : List It) (n df : Int) (c : Cd) : Prop where
 blk : w.heap[g]? = some (.cells (pre ++ fcR vp vi n df c ++ post).toArray tq (0, 0))
 pk : RowPk T w vp l
 it : RowIt w vi il
 pg : ∀ k, vp.ownBlock = some k → k ≠ g ∧ ¬ T k
 ig : ∀ k, vi.ownBlock = some k → k ≠ g ∧ ¬ T k
 pi : ∀ k, vp.ownBlock = some k → vi.ownBlock ≠ some k
 there : ∀ k, T k → k < w.heap.size
 gt : ¬ T g
section
variable {T S : Nat → Prop} {w w' : World} {g : Nat} {tq : TypeId} {pre post : List Value} {vp vi : Value} {l : List Pk} {il : List It} {n df : Int} {c : Cd}
theorem FlB.only (h : FlB T w g tq pre post vp vi l il n df c) (ho : Only S w w') (hg : ¬ S g) (hp : ∀ k, vp.ownBlock = some k → ¬ S k) (hi : ∀ k, vi.ownBlock = some k → ¬ S k) (ht : ∀ k, T k → ¬ S k) : FlB T w' g tq pre post vp vi l il n df c where
 blk := ho.at_ h.blk hg
 pk := h.pk.only ho hp ht
 it := h.it.only ho hi
 pg := h.pg
 ig := h.ig
 pi := h.pi
 there := fun k hk => Nat.lt_of_lt_of_le (h.there k hk) ho.size
 gt := h.gt
theorem FlB.quiet (h : FlB T w g tq pre post vp vi l il n df c) (hb : Below w.heap.size w w') : FlB T w' g tq pre post vp vi l il n df c :=
 h.only (S := fun _ => False) (Only.of_quiet hb) (fun e => e) (fun _ _ e => e) (fun _ _ e => e) (fun _ _ e => e)
theorem FlB.lt (h : FlB T w g tq pre post vp vi l il n df c) : g < w.heap.size := lt_blk h.blk
theorem FlB.store (h : FlB T w g tq pre post vp vi l il n df c) (n' df' : Int) (c' : Cd) : FlB T (w.setRow g (pre ++ fcR vp vi n' df' c' ++ post).toArray) g tq pre post vp vi l il n' df' c' :=
 have ho : Only (· = g) w (w.setRow g (pre ++ fcR vp vi n' df' c' ++ post).toArray) := only_setRow _ _ _
 {blk := setRow_heap w g _ _ _ _ h.blk
  pk := h.pk.only ho (fun k hk e => (h.pg k hk).1 e) (fun k hk e => h.gt (e ▸ hk))
  it := h.it.only ho (fun k hk e => (h.ig k hk).1 e)
  pg := h.pg
  ig := h.ig
  pi := h.pi
  there := fun k hk => Nat.lt_of_lt_of_le (h.there k hk) ho.size
  gt := h.gt }
theorem FlB.put {old : Array Value} (hb : w.heap[g]? = some (.cells old tq (0, 0))) (hp : RowPk T w vp l) (hi : RowIt w vi il) (pg : ∀ k, vp.ownBlock = some k → k ≠ g ∧ ¬ T k) (ig : ∀ k, vi.ownBlock = some k → k ≠ g ∧ ¬ T k)
 (pi : ∀ k, vp.ownBlock = some k → vi.ownBlock ≠ some k) (ht : ∀ k, T k → k < w.heap.size) (gt : ¬ T g) : FlB T (w.setRow g (pre ++ fcR vp vi n df c ++ post).toArray) g tq pre post vp vi l il n df c :=
 have ho : Only (· = g) w (w.setRow g (pre ++ fcR vp vi n df c ++ post).toArray) := only_setRow _ _ _
 {blk := setRow_heap w g _ _ _ _ hb
  pk := hp.only ho (fun k hk e => (pg k hk).1 e) (fun k hk e => gt (e ▸ hk))
  it := hi.only ho (fun k hk e => (ig k hk).1 e)
  pg := pg
  ig := ig
  pi := pi
  there := fun k hk => Nat.lt_of_lt_of_le (ht k hk) ho.size
  gt := gt }
theorem FlB.cell (h : FlB T w g tq pre post vp vi l il n df c) {o : Nat} (ho : pre.length = o) {j : Nat} {v : Value} (hv : (fcR vp vi n df c)[j]? = some v) : w.cell? ⟨g, o + j, none⟩ = some v := mid_cell h.blk ho hv
end
end Go.Proofs.YtndkmgcmegcieaaGreatDoor
