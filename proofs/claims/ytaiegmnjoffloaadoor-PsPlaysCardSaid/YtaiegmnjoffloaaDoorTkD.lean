/-
  STEPS OF A DRAWN REGION IN SHORT FORM: under a condition that holds till operation d. No program is named.
-/
import Derived.Test.YtaiegmnjoffloaaDoorHeldD
namespace Go.Proofs.YtaiegmnjoffloaaDoor
section
variable {P : Program} {ops : Array Oper} {Q : Exit → Act → World → Prop} {md : Region.Mode} {S : World → Prop} {d : Nat}
theorem dP (i : Nat) {oi : Oper} {v : Value} {fuel : Nat} {listed : Array Bool} {a a' : Act} {w : World} (hc : ClosedL md ops listed) (hS : S w) (h : ClosedL md ops (listed.setIfInBounds i true) → wpAnyD P md ops Q S d fuel (listed.setIfInBounds i true) a' w)
    (hi : ops[i]? = some oi := by rfl) (hs : Region.noSelect ops = true := by kernel_rfl) (hf : Region.free md ops listed i = true := by kernel_rfl) (hr : (Region.ready md ops listed).contains i = true := by kernel_rfl) (hid : i ≠ d := by decide) (hQ : ∀ c a w, Q (.panic c) (a.put oi.dst v) w → Q (.panic c) a w := by exact fun _ _ _ h => h)
    (hg : Region.wanted oi (yielded ops a.tmps) = true := by rfl) (hv : ∀ w, (execOp a.eval oi).run P w = .ok (.value v) w := by intro w; go_simp; try with_reducible rfl)
    (ha : a.put oi.dst v = a' := by (try simp only [Act.put, List.getElem_toArray, List.getElem_cons_zero, List.getElem_cons_succ, List.setIfInBounds_toArray, List.set_cons_zero, List.set_cons_succ]); rfl) : wpAnyD P md ops Q S d (fuel + 1) listed a w :=
  wpAnyD_pure hi hc hs hf hr hid hQ (.inl ⟨hg, fun w _ => hv w⟩) (fun _ => hS) (fun k => ha ▸ h k)
theorem dQ (i : Nat) {oi : Oper} {v : Value} {fuel : Nat} {listed : Array Bool} {a a' : Act} {w : World} (hc : ClosedL md ops listed) (h : ClosedL md ops (listed.setIfInBounds i true) → wpAnyD P md ops Q S d fuel (listed.setIfInBounds i true) a' w)
    (hi : ops[i]? = some oi := by rfl) (hs : Region.noSelect ops = true := by kernel_rfl) (hf : Region.free md ops listed i = true := by kernel_rfl) (hr : (Region.ready md ops listed).contains i = true := by kernel_rfl) (hid : i ≠ d := by decide) (hQ : ∀ c a w, Q (.panic c) (a.put oi.dst v) w → Q (.panic c) a w := by exact fun _ _ _ h => h)
    (hg : Region.wanted oi (yielded ops a.tmps) = true := by rfl) (hv : ∀ w, (execOp a.eval oi).run P w = .ok (.value v) w := by intro w; go_simp; try with_reducible rfl) (hb : listed.getD d false = true := by kernel_rfl)
    (ha : a.put oi.dst v = a' := by (try simp only [Act.put, List.getElem_toArray, List.getElem_cons_zero, List.getElem_cons_succ, List.setIfInBounds_toArray, List.set_cons_zero, List.set_cons_succ]); rfl) : wpAnyD P md ops Q S d (fuel + 1) listed a w :=
  wpAnyD_pure hi hc hs hf hr hid hQ (.inl ⟨hg, fun w _ => hv w⟩) (fun e => by rw [hb] at e; cases e) (fun k => ha ▸ h k)
theorem dT (i : Nat) {oi : Oper} {v : Value} {fuel : Nat} {listed : Array Bool} {a a' : Act} {w : World} {F : World → Prop} (hc : ClosedL md ops listed) (hS : S w) (hz : ∀ w, S w → F w) (h : ClosedL md ops (listed.setIfInBounds i true) → wpAnyD P md ops Q S d fuel (listed.setIfInBounds i true) a' w)
    (hi : ops[i]? = some oi := by rfl) (hs : Region.noSelect ops = true := by kernel_rfl) (hf : Region.free md ops listed i = true := by kernel_rfl) (hr : (Region.ready md ops listed).contains i = true := by kernel_rfl) (hn : needs md ops 40 d i = true := by kernel_rfl) (hid : i ≠ d := by decide) (hQ : ∀ c a w, Q (.panic c) (a.put oi.dst v) w → Q (.panic c) a w := by exact fun _ _ _ h => h)
    (hg : Region.wanted oi (yielded ops a.tmps) = true := by rfl) (hv : ∀ w, F w → (execOp a.eval oi).run P w = .ok (.value v) w := by intro w hz; go_simp; try with_reducible rfl)
    (ha : a.put oi.dst v = a' := by (try simp only [Act.put, List.getElem_toArray, List.getElem_cons_zero, List.getElem_cons_succ, List.setIfInBounds_toArray, List.set_cons_zero, List.set_cons_succ]); rfl) : wpAnyD P md ops Q S d (fuel + 1) listed a w :=
  wpAnyD_take 40 hi hn hc hs hf hr hid hQ (.inl ⟨hg, fun w hw => hv w (hz w hw)⟩) (fun _ => hS) (fun k => ha ▸ h k)
theorem dV (i : Nat) {oi : Oper} {v : Value} {fuel : Nat} {listed : Array Bool} {a a' : Act} {w : World} (hc : ClosedL md ops listed) (hS : S w) (h : ClosedL md ops (listed.setIfInBounds i true) → wpAnyD P md ops Q S d fuel (listed.setIfInBounds i true) a' w)
    (hi : ops[i]? = some oi := by rfl) (hs : Region.noSelect ops = true := by kernel_rfl) (hf : Region.free md ops listed i = true := by kernel_rfl) (hr : (Region.ready md ops listed).contains i = true := by kernel_rfl) (hn : needs md ops 40 d i = true := by kernel_rfl) (hid : i ≠ d := by decide) (hQ : ∀ c a w, Q (.panic c) (a.put oi.dst v) w → Q (.panic c) a w := by exact fun _ _ _ h => h)
    (hg : Region.wanted oi (yielded ops a.tmps) = true := by rfl) (hv : ∀ w, (execOp a.eval oi).run P w = .ok (.value v) w := by intro w; go_simp; try with_reducible rfl)
    (ha : a.put oi.dst v = a' := by (try simp only [Act.put, List.getElem_toArray, List.getElem_cons_zero, List.getElem_cons_succ, List.setIfInBounds_toArray, List.set_cons_zero, List.set_cons_succ]); rfl) : wpAnyD P md ops Q S d (fuel + 1) listed a w :=
  wpAnyD_take 40 hi hn hc hs hf hr hid hQ (.inl ⟨hg, fun w _ => hv w⟩) (fun _ => hS) (fun k => ha ▸ h k)
end
end Go.Proofs.YtaiegmnjoffloaaDoor
