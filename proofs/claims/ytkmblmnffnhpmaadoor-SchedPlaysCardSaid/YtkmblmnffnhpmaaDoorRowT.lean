/-
  A ROW OF STRUCTS OF AN OBJECT'S OWN (OwnS), WITH FOOTPRINTS: append of a whole row, empty ones let in; one cell of one struct stored; an empty one made. No program is named.
-/
import Derived.Test.YtkmblmnffnhpmaaDoorRowS
import Derived.Test.YtkmblmnffnhpmaaDoorOnly
import Derived.Test.YtkmblmnffnhpmaaDoorShutA
namespace Go.Proofs.YtkmblmnffnhpmaaDoor
open Go.ChangeShapes Go.WideShapes Go.ChangeAt Go.RowKit Go.Deep
set_option linter.unusedVariables false
set_option linter.unusedSimpArgs false
section
variable {α : Type} {F : α → List Value} {sz : Nat} {d : α} {P : Program}
theorem flatF_len (hF : ∀ a, (F a).length = sz) (l : List α) : (l.flatMap F).length = l.length * sz := by
  induction l with
  | nil => simp
  | cons x r ih => rw [List.flatMap_cons, List.length_append, hF, ih, List.length_cons, Nat.succ_mul, Nat.add_comm]
theorem run_append_owned_zero {w : World} (base : Nat) (t ty e : TypeId) (i : TypeInfo) (size : Nat) (ht : P.underlying t = some (.slice e)) (hi : P.info? e = some i) (v : Value) (n : Nat) (xs : List Value) (hown : w.ownsRow base e size v n xs)
    (A : Option Addr) (c : Nat) (hA : A = none → c = 0) : (Builtin.append_ #[t, t] ty #[v, .slice A 0 c]).run P w = .ok v w := by
  cases A with
  | none => rw [hA rfl]; exact run_append_owned_none _ base t ty e i size ht hi v n xs hown
  | some ad =>
    rcases hown.2 with ⟨rfl, rfl⟩ | ⟨g, cap, cur, rfl, _, _, hnc, _⟩
    · simp [Builtin.append_, run_underlying ht, sizeOf, typeInfo, hi, Builtin.lenOf, Builtin.firstCells, storeCells, loadCells, loadCellsFrom]
    · simp [Builtin.append_, run_underlying ht, sizeOf, typeInfo, hi, Builtin.lenOf, Builtin.firstCells, hnc, storeCells, loadCells, loadCellsFrom]
/-- append of the row that lies at A. -/
theorem wpList_app_row {w : World} {ops : Array Oper} {rest : List Oper} {o : Oper} {a : Act} {Q : Exit → Act → World → Prop} (hF : ∀ a, (F a).length = sz) (h1 : ∀ u, ∀ q ∈ F u, q.oneCell' = true) (hgd : o.guard = none) (s x : Operand) (t : TypeId)
    (ho : o.op = .call { callee := .builtin .append, args := #[s, x], argTypes := #[t, t] }) (e : TypeId) (i : TypeInfo) (z : Value) (bytes : Nat) (ht : P.underlying t = some (.slice e)) (hi : P.info? e = some i) (hz : i.zero = some z) (hsize : i.size = sz) (hby : i.bytes = bytes) (hzs : z.cells.size = sz) (hsz : 0 < sz) (hb100 : bytes ≤ 1000)
    (B n : Nat) (lv : Value) (l1 : List α) (hs : a.eval s = lv) (hP : OwnS F sz w B e lv n l1) (A : Option Addr) (m c : Nat) (l2 : List α) (hx : a.eval x = .slice A m c) (hR : RowS F sz d w A m l2) (hA : A = none → c = 0)
    (hk : n + m ≤ 1000000) (hB : B ≤ w.heap.size)
    (h : ∀ v w', Shut (OwnS F sz w' B e v (n + m) (l1 ++ l2)) → Shut (Only (fun g => lv.ownBlock = some g) w w') → Shut (∀ g, v.ownBlock = some g → lv.ownBlock = some g ∨ w.heap.size ≤ g) → Shut (Below B w w') → wpList P ops Q rest (a.put o.dst v) w') : wpList P ops Q (o :: rest) a w := by
  rcases Nat.eq_zero_or_pos m with h0 | h0
  · subst h0
    obtain rfl : l2 = [] := List.eq_nil_of_length_eq_zero hR.len
    refine wpList_plain hgd fun K hK => ?_
    have hrun := run_append_owned_zero (w := w) B t o.type e i sz ht hi lv n _ hP.1 A c hA
    unfold Oper.wp
    simp [execOp, ho, resolve, invoke, builtin, hs, hx, hrun, Result.andThen]
    exact hK _ _ (h lv w ⟨by simpa using hP⟩ ⟨Only.refl _ _⟩ ⟨fun g hg => .inl hg⟩ ⟨Below.refl _ _⟩)
  · obtain ⟨b, off, rfl, he⟩ := hR.els h0
    have hbm : (n + m) * bytes ≤ 1000000 * 1000 := Nat.mul_le_mul hk hb100
    refine wpList_append_lies w hgd s x t ho B e i z sz bytes ht hi hz hsize hby hzs hsz lv n _ hs hP.1 ⟨b, off, none⟩ m c (l2.flatMap F) hx (by rw [flatF_len hF, hR.len]) (fun j v hv => ?_) (fun v hv => by
      obtain ⟨u, -, hu⟩ := List.mem_flatMap.1 hv
      exact h1 u v hu) h0 (by unfold maxLen; omega) (by omega) hB w.heap.size rfl ?_
    · have hj : j < m * sz := by
        have h1 := (List.getElem?_eq_some_iff.1 hv).1
        rw [flatF_len hF, hR.len] at h1
        exact h1
      have hq : j / sz < m := Nat.div_lt_of_lt_mul (by rw [Nat.mul_comm]; exact hj)
      have hr : j % sz < sz := Nat.mod_lt _ hsz
      have e : j = j / sz * sz + j % sz := by rw [Nat.mul_comm]; exact (Nat.div_add_mod j sz).symm
      rw [e, flat_at (d := d) hF l2 (j / sz) (j % sz) (by rw [hR.len]; exact hq) hr] at hv
      have := he (j / sz) hq (j % sz) v hv
      rw [e, Addr.add_mid]
      simpa [Nat.add_assoc] using this
    · intro g cap w' hown hgrow hor hlt
      refine h _ w' ⟨⟨?_, by rw [List.length_append, hP.2, hR.len]⟩⟩ ⟨(Only.refl _ w).grown hgrow fun k hk _ => hk⟩ ⟨fun g' hg' => ?_⟩ ⟨(Below.refl B w).grown hgrow hB (by intro q hq; exact (World.ownsRow.lt hP.1 q hq).1)⟩
      · rw [List.flatMap_append]; exact hown
      · have e1 : g' = g := by simpa [Value.ownBlock] using hg'.symm
        rw [e1]
        rcases hor with e | e
        · exact .inl e
        · exact .inr (Nat.le_of_eq e.symm)
/-- an empty one, made where nothing was. -/
theorem own_empty (w : World) (B : Nat) (e : TypeId) (hB : B ≤ w.heap.size) (t : TypeId) : OwnS F sz (w.alloc (.cells #[] e)) B e (.slice (some ⟨w.heap.size, 0, none⟩) 0 0) 0 [] := by
  refine ⟨⟨by simp, .inr ⟨w.heap.size, 0, #[], rfl, hB, (MapKept.heap_alloc w (.cells #[] e)).1, Nat.le_refl _, by unfold maxLen; omega, by simp, by simp⟩⟩, rfl⟩
/-- one that was just laid, of one. -/
theorem row_one (w : World) (e : TypeId) (u : α) (hF : (F u).length = sz) : RowS F sz d (w.alloc (.cells (F u).toArray e)) (some ⟨w.heap.size, 0, none⟩) 1 [u] := by
  refine ⟨rfl, by unfold maxLen; omega, fun _ => ⟨w.heap.size, 0, rfl, fun i hi => ?_⟩⟩
  obtain rfl : i = 0 := by omega
  intro j v hv
  rw [cell_of_row (w.alloc (.cells (F u).toArray e)) w.heap.size _ _ e (0, 0) (MapKept.heap_alloc w _).1]
  have hv' : (F u)[j]? = some v := hv
  simpa using hv'
/-- the row behind m. -/
theorem RowS.rest' {w : World} {n : Nat} {l : List α} {b off : Nat} (h : RowS F sz d w (some ⟨b, off, none⟩) n l) (m : Nat) (hm : m ≤ n) : RowS F sz d w (some ⟨b, off + m * sz, none⟩) (n - m) (l.drop m) := by
  refine ⟨by rw [List.length_drop, h.len], by have := h.le; omega, fun hp => ?_⟩
  obtain ⟨b', off', e, he⟩ := h.els (by omega)
  cases e
  refine ⟨b, off + m * sz, rfl, fun i hi => ?_⟩
  have h2 := he (m + i) (by omega)
  have e1 : (l.drop m).getD i d = l.getD (m + i) d := by simp [List.getD]
  have e2 : off + m * sz + i * sz = off + (m + i) * sz := by rw [Nat.add_mul]; omega
  rw [e1, e2]
  exact h2
theorem run_storeAt_cell (w : World) (g j : Nat) (ty : TypeId) (v0 v : Value) (hcell : w.cell? ⟨g, j, none⟩ = some v0) (hfro : w.frozen? ⟨g, j, none⟩ = false) (hi : (P.info? ty).map (·.size) = some 1) (h1 : v.oneCell' = true) :
    (Instr.storeAt ty (.pointer (some ⟨g, j, none⟩)) v).run P w = .ok () (w.setCell ⟨g, j, none⟩ v) := by
  have hc : v.cells = #[v] := by cases v <;> first | rfl | cases h1
  have hst : (store ⟨g, j, none⟩ v).run P w = .ok () (w.setCell ⟨g, j, none⟩ v) := by
    rw [run_store P w _ v _ h1, hcell]
    simp [hfro]
  have hadd : (⟨g, j, none⟩ : Addr).add 0 = ⟨g, j, none⟩ := by unfold Addr.add; split <;> simp_all
  cases hq : P.info? ty with
  | none => simp [hq] at hi
  | some inf =>
    have hs : inf.size = 1 := by simpa [hq] using hi
    simp [Instr.storeAt, Instr.sureAddr, storeVar, sizeOf, typeInfo, hq, hc, hs, storeCells, hadd, hst, Result.andThen]
theorem flat_set (hF : ∀ a, (F a).length = sz) : ∀ (l : List α) (i j : Nat) (b : α) (v : Value), i < l.length → j < sz → F b = (F (l.getD i d)).set j v → (l.flatMap F).set (i * sz + j) v = (l.set i b).flatMap F
  | [], i, j, b, v, hi, hj, hb => by simp at hi
  | a :: r, 0, j, b, v, hi, hj, hb => by
    have hb' : F b = (F a).set j v := hb
    rw [List.flatMap_cons, Nat.zero_mul, Nat.zero_add, List.set_append_left _ _ (by rw [hF]; exact hj), List.set_cons_zero, List.flatMap_cons, hb']
  | a :: r, i + 1, j, b, v, hi, hj, hb => by
    have h1 := flat_set hF r i j b v (by simpa using hi) hj hb
    rw [List.flatMap_cons, List.set_append_right _ _ (by rw [hF, Nat.succ_mul]; omega), hF, show (i + 1) * sz + j - sz = i * sz + j by rw [Nat.succ_mul]; omega, h1, List.set_cons_succ, List.flatMap_cons]
/-- one cell of one struct stored: the struct anew. -/
theorem wp_store_cell {w : World} {o : Oper} {a : Act} {K : Act → World → Prop} {Q : Exit → Act → World → Prop} (hF : ∀ a, (F a).length = sz) (ty : TypeId) (x y : Operand) (ho : o.op = .store ty x y)
    (B : Nat) (T : TypeId) (g k j n cap off : Nat) (l : List α) (f' : α) (v : Value) (hx : a.eval x = .pointer (some ⟨g, off, none⟩)) (hoff : off = k * sz + j) (hy : a.eval y = v) (h1 : v.oneCell' = true) (hO : OwnS F sz w B T (.slice (some ⟨g, 0, none⟩) n cap) n l) (hk : k < n) (hj : j < sz) (hi : (P.info? ty).map (·.size) = some 1) (hf : F f' = (F (l.getD k d)).set j v)
    (h : ∀ w', Shut (OwnS F sz w' B T (.slice (some ⟨g, 0, none⟩) n cap) n (l.set k f')) → Shut (Only (· = g) w w') → K (a.put o.dst undef) w') : o.wp P a w K Q := by
  subst hoff
  have hll : l.length = n := hO.2
  have hlt : k * sz + j < n * sz := by
    have h2 : (k + 1) * sz ≤ n * sz := Nat.mul_le_mul_right _ hk
    rw [Nat.succ_mul] at h2
    omega
  have hfl : (l.flatMap F).length = n * sz := hO.1.1
  have hcell : w.cell? ⟨g, k * sz + j, none⟩ = some ((l.flatMap F)[k * sz + j]'(by omega)) := by rw [World.ownsRow.cellAt hO.1 _ hlt]; simp [show k * sz + j < (l.flatMap F).length by omega]
  unfold Oper.wp execOp
  simp only [ho, hx, hy, Sem.run_bind, Sem.run_pure, Result.andThen_ok, run_storeAt_cell w g (k * sz + j) ty _ v hcell (World.ownsRow.frozenAt hO.1 _) hi h1]
  have hs := World.ownsRow.stored hO.1 (k * sz + j) v
  refine h _ ⟨⟨?_, by rw [List.length_set]; exact hll⟩⟩ ⟨(Only.refl (· = g) w).setCell (p := ⟨g, k * sz + j, none⟩) (fun _ => rfl) v⟩
  rw [← flat_set (d := d) hF l k j f' v (by omega) hj hf]
  exact hs.1
theorem wpList_store_cell {w : World} {ops : Array Oper} {rest : List Oper} {o : Oper} {a : Act} {Q : Exit → Act → World → Prop} (hF : ∀ a, (F a).length = sz) (hgd : Region.wanted o (yielded ops a.tmps) = true) (ty : TypeId) (x y : Operand) (ho : o.op = .store ty x y)
    (B : Nat) (T : TypeId) (g k j n cap off : Nat) (l : List α) (f' : α) (v : Value) (hx : a.eval x = .pointer (some ⟨g, off, none⟩)) (hoff : off = k * sz + j) (hy : a.eval y = v) (h1 : v.oneCell' = true) (hO : OwnS F sz w B T (.slice (some ⟨g, 0, none⟩) n cap) n l) (hk : k < n) (hj : j < sz) (hi : (P.info? ty).map (·.size) = some 1) (hf : F f' = (F (l.getD k d)).set j v)
    (h : ∀ w', Shut (OwnS F sz w' B T (.slice (some ⟨g, 0, none⟩) n cap) n (l.set k f')) → Shut (Only (· = g) w w') → wpList P ops Q rest (a.put o.dst undef) w') : wpList P ops Q (o :: rest) a w :=
  wpList_step fun _ hK => by
    rw [if_pos hgd]
    exact wp_store_cell (d := d) hF ty x y ho B T g k j n cap off l f' v hx hoff hy h1 hO hk hj hi hf fun w' h2 h3 => hK _ _ (h w' h2 h3)
theorem step_store_cell {w : World} {ops : Array Oper} {o : Oper} {a : Act} {K : Act → World → Prop} {Q : Exit → Act → World → Prop} {E : Prop} (hF : ∀ a, (F a).length = sz) (hgd : Region.wanted o (yielded ops a.tmps) = true) (ty : TypeId) (x y : Operand) (ho : o.op = .store ty x y)
    (B : Nat) (T : TypeId) (g k j n cap off : Nat) (l : List α) (f' : α) (v : Value) (hx : a.eval x = .pointer (some ⟨g, off, none⟩)) (hoff : off = k * sz + j) (hy : a.eval y = v) (h1 : v.oneCell' = true) (hO : OwnS F sz w B T (.slice (some ⟨g, 0, none⟩) n cap) n l) (hk : k < n) (hj : j < sz) (hi : (P.info? ty).map (·.size) = some 1) (hf : F f' = (F (l.getD k d)).set j v)
    (h : ∀ w', Shut (OwnS F sz w' B T (.slice (some ⟨g, 0, none⟩) n cap) n (l.set k f')) → Shut (Only (· = g) w w') → K (a.put o.dst undef) w') : if Region.wanted o (yielded ops a.tmps) = true then Oper.wp P o a w K Q else E := by
  rw [if_pos hgd]
  exact wp_store_cell (d := d) hF ty x y ho B T g k j n cap off l f' v hx hoff hy h1 hO hk hj hi hf h
end
end Go.Proofs.YtkmblmnffnhpmaaDoor
