/-
  CONTRACTS of package sched: a copy of the turns.
-/
import Derived.Test.YtkmblmnffnhpmaaDoorSchedG
import Derived.Deep.AppendLies
import Derived.Deep.Slices
import Derived.Lib.SliceRun
import Derived.StillTailTactics
import Derived.LoopTactic
namespace Go.Proofs.YtkmblmnffnhpmaaDoor
open Go.ChangeShapes Go.WideShapes Go.ChangeAt Go.RowKit Go.Deep
set_option linter.unusedVariables false
set_option linter.unusedSimpArgs false

/-- 'append([]T{}, r...)': a fresh row that reads as r. -/
theorem app_clone {ops : Array Oper} {rest : List Oper} {o : Oper} {a : Act} {w : World} {Q : Exit → Act → World → Prop} (hgd : o.guard = none) (s x : Operand) (t e : TypeId)
    (ho : o.op = .call { callee := .builtin .append, args := #[s, x], argTypes := #[t, t] }) (i0 : TypeInfo) (z : Value) (size bytes : Nat) (hu : Tryd.prog.underlying t = some (.slice e)) (hi0 : Tryd.prog.info? e = some i0) (hz0 : i0.zero = some z) (hz1 : i0.size = size) (hz2 : i0.bytes = bytes) (hzs : z.cells.size = size) (hsz : 0 < size)
    (hs : a.eval s = .slice (some ⟨w.heap.size, 0, none⟩) 0 0) (v : Value) (n : Nat) (xs : List Value) (hx : a.eval x = v) (hR : RowAt w e size v n xs) (h1 : ∀ u ∈ xs, u.oneCell' = true) (hk : n ≤ 100000) (hb : bytes ≤ 1000)
    (h : ∀ u w', Shut (RowAt w' e size u n xs) → Shut (Below w.heap.size w w') → Shut (∀ g, u.ownBlock = some g → w.heap.size ≤ g) → wpList Tryd.prog ops Q rest (a.put o.dst u) w') :
    wpList Tryd.prog ops Q (o :: rest) a (w.alloc (.cells #[] e)) := by
  have hb0 := (Below.refl w.heap.size w).alloc (Nat.le_refl _) (.cells #[] e)
  have hg0 : (w.alloc (.cells #[] e)).heap[w.heap.size]? = some (.cells #[] e (0, 0)) := (MapKept.heap_alloc w _).1
  rcases Nat.eq_zero_or_pos n with h0 | h0
  · subst h0
    obtain ⟨A, c, rfl, -, -⟩ := hR.form
    obtain rfl : xs = [] := List.eq_nil_of_length_eq_zero (by rw [hR.1]; omega)
    refine wpList_plain hgd fun K hK => ?_
    have hrun : (Builtin.append_ #[t, t] o.type #[.slice (some ⟨w.heap.size, 0, none⟩) 0 0, .slice A 0 c]).run Tryd.prog (w.alloc (.cells #[] e)) = .ok (.slice (some ⟨w.heap.size, 0, none⟩) 0 0) (w.alloc (.cells #[] e)) := by
      cases A with
      | none => simp [Builtin.append_, run_underlying hu, sizeOf, typeInfo, hi0, Builtin.lenOf, Builtin.firstCells, storeCells, loadCells, loadCellsFrom]
      | some ad => simp [Builtin.append_, run_underlying hu, sizeOf, typeInfo, hi0, Builtin.lenOf, Builtin.firstCells, storeCells, loadCells, loadCellsFrom]
    unfold Oper.wp
    simp [execOp, ho, resolve, invoke, builtin, hs, hx, hrun, Result.andThen]
    exact hK _ _ (h _ _ ⟨⟨by simp, .inr ⟨w.heap.size, 0, 0, [], [], rfl, rfl, hg0, Nat.le_refl _, by unfold maxLen; omega, by simp⟩⟩⟩ ⟨hb0⟩ ⟨fun g hg => by cases hg; exact Nat.le_refl _⟩)
  · have hR' : RowAt (w.alloc (.cells #[] e)) e size v n xs := hR.only (S := fun _ => False) (Only.of_quiet hb0) (fun _ _ e => e)
    obtain ⟨b, off, c, hv, hc, hn, hm⟩ := hR'.cells h0
    have hown : (w.alloc (.cells #[] e)).ownsRow w.heap.size e size (.slice (some ⟨w.heap.size, 0, none⟩) 0 0) 0 [] := by
      refine ⟨by simp, .inr ⟨w.heap.size, 0, #[], rfl, Nat.le_refl _, hg0, Nat.le_refl _, by unfold maxLen; omega, by simp, by simp⟩⟩
    refine wpList_append_lies _ hgd s x t ho w.heap.size e i0 z size bytes hu hi0 hz0 hz1 hz2 hzs hsz _ 0 [] hs hown ⟨b, off, none⟩ n c xs (by rw [hx, hv]) hR.1 (fun j v hv => ?_) h1 h0 (by unfold maxLen; omega) (by have : (0 + n) * bytes ≤ 100000 * 1000 := Nat.mul_le_mul (by omega) hb; omega) hb0.size _ rfl ?_
    · rw [Addr.add_mid]; exact hc j v hv
    · intro g cap w' hown' hgrow hor hlt
      rw [Nat.zero_add, List.nil_append] at hown'
      have hro : RowAt w' e size (.slice (some ⟨g, 0, none⟩) n cap) n xs := RowAt.of_owns hown'
      refine h _ w' ⟨?_⟩ ⟨hb0.trans ((Below.refl w.heap.size _).grown hgrow hb0.size (by intro q hq; cases hq; exact Nat.le_refl _))⟩ ⟨fun g' hg' => ?_⟩
      · first | exact hro | (have := hro; simpa using this)
      · have e1 : g' = g := by simpa [Value.ownBlock] using hg'.symm
        rw [e1]; exact (World.ownsRow.lt hown' g rfl).1

set_option maxRecDepth 100000 in
set_option maxHeartbeats 8000000 in
theorem cloneint_any (w : World) (v : Value) (l : List Int) (h : RowN w v l) (hl : l.length ≤ 100000) :
    Calls Tryd.prog 41 #[v] w fun e w' => ∃ u, e = .returned u ∧ RowN w' u l ∧ Below w.heap.size w w' ∧ ∀ g, u.ownBlock = some g → w.heap.size ≤ g := by
  obtain ⟨i0, hi0, hz0, hz1, hz2⟩ := info_parts' int_info
  have hrow : RowAt w 3 1 v l.length (l.map (Value.int .i64)) := h
  have H1 := Shut.mk (show ∀ u ∈ l.map (Value.int .i64), u.oneCell' = true from fun u hu => by
    obtain ⟨p, hp, rfl⟩ := List.mem_map.1 hu
    rfl)
  clear h
  have HR := Shut.mk hrow
  have HL := Shut.mk hl
  rcases hrow.2 with ⟨rfl, h0⟩ | ⟨g, o, cap, p1, p2, rfl, -, -, -, -, -⟩
  · have HN := Shut.mk h0
    clear hrow h0
    have hq := Lib.run_eql_slice_nil (P := Tryd.prog) w 32 3 none 0 0 0 0 Tryd.underlying32
    simp only [Option.isNone_none] at hq
    go_enter Tryd.func41, Tryd.ntmps41
    go_wp2
    go_ret
    refine ⟨_, rfl, HR.out, Below.refl _ _, fun g hg => by cases hg⟩
  · clear hrow
    have hq := Lib.run_eql_slice_nil (P := Tryd.prog) w 32 3 (some ⟨g, o, none⟩) l.length cap 0 0 Tryd.underlying32
    simp only [Option.isNone_some] at hq
    go_enter Tryd.func41, Tryd.ntmps41
    go_wp2_with (first
      | (refine app_clone rfl (.tmp 5) (.tmp 6) 32 3 rfl i0 _ 1 8 Tryd.underlying32 hi0 hz0 hz1 hz2 rfl (by decide) rfl _ _ _ rfl HR.out H1.out HL.out (by decide) ?_
         intro u w1 HU HB HG))
    go_ret
    exact ⟨_, rfl, HU.out, HB.out, HG.out⟩

def row34 (x y : Nat → Int) : List Value := [.int .i64 (x 0), .int .i64 (y 0), .int .i64 (x 1), .int .i64 (y 1), .int .i64 (x 2), .int .i64 (y 2), .int .i64 (x 3), .int .i64 (y 3), .int .i64 (x 4), .int .i64 (y 4), .int .i64 (x 5), .int .i64 (y 5), .int .i64 (x 6), .int .i64 (y 6), .int .i64 (x 7), .int .i64 (y 7), .int .i64 (x 8), .int .i64 (y 8), .int .i64 (x 9), .int .i64 (y 9), .int .i64 (x 10), .int .i64 (y 10), .int .i64 (x 11), .int .i64 (y 11), .int .i64 (x 12), .int .i64 (y 12), .int .i64 (x 13), .int .i64 (y 13), .int .i64 (x 14), .int .i64 (y 14), .int .i64 (x 15), .int .i64 (y 15), .int .i64 (x 16), .int .i64 (y 16)]
def row35 (x y : Nat → Int) (v : Value) : List Value := row34 x y ++ [v]
def zer35 : List Value := [.int .i64 0, .int .i64 0, .int .i64 0, .int .i64 0, .int .i64 0, .int .i64 0, .int .i64 0, .int .i64 0, .int .i64 0, .int .i64 0, .int .i64 0, .int .i64 0, .int .i64 0, .int .i64 0, .int .i64 0, .int .i64 0, .int .i64 0, .int .i64 0, .int .i64 0, .int .i64 0, .int .i64 0, .int .i64 0, .int .i64 0, .int .i64 0, .int .i64 0, .int .i64 0, .int .i64 0, .int .i64 0, .int .i64 0, .int .i64 0, .int .i64 0, .int .i64 0, .int .i64 0, .int .i64 0, .slice none 0 0]
theorem app_nil2 (l : List Value) : ([] ++ l ++ []).toArray = l.toArray := by simp
theorem c35_row (x y : Nat → Int) (v : Value) : c35 x y v = (row35 x y v).toArray := rfl
theorem size34 : (Tryd.prog.info? 58).map (·.size) = some 34 := by kernel_rfl
theorem size35 : (Tryd.prog.info? 60).map (·.size) = some 35 := by kernel_rfl
theorem size35s : (Tryd.prog.info? 62).map (·.size) = some 35 := by kernel_rfl
theorem one35 (x y : Nat → Int) (v : Value) (h : v.oneCell' = true) : ∀ u ∈ row35 x y v, u.oneCell' = true := fun u hu => by
  rcases List.mem_append.1 hu with e | e
  · have hh : (row34 x y).all (fun q => q.oneCell') = true := by unfold row34; simp [Value.oneCell']
    exact List.all_eq_true.1 hh u e
  · rw [List.mem_singleton.1 e]; exact h
theorem At35.range34 {T : TypeId} {w : World} {g : Nat} {x y : Nat → Int} {v : Value} (hg : At35 T w g x y v) : w.rangeAt g 0 (row34 x y) := fun j u hu => by
  rw [Nat.zero_add, hg.cell, c35_row, List.getElem?_toArray]
  unfold row35
  rw [List.getElem?_append_left (List.getElem?_eq_some_iff.1 hu).1]
  exact hu
set_option maxRecDepth 100000 in
set_option maxHeartbeats 8000000 in
theorem clone_tu (T : TypeId) (g : Nat) (x y : Nat → Int) (v : Value) (l : List Int) (w : World) (h : IsT T w g x y v l) :
    Calls Tryd.prog 29 #[.pointer (some ⟨g, 0, none⟩)] w fun e w' => ∃ u, e = .returned (.agg (c35 x y u)) ∧ RowN w' u l ∧ (∀ k, u.ownBlock = some k → w.heap.size < k) ∧ Below w.heap.size w w' := by
  have HR := Shut.mk h.row
  have HL := Shut.mk (show l.length ≤ 100000 by have := h.few; omega)
  have HW1 := Shut.mk ((Below.refl w.heap.size w).alloc (Nat.le_refl _) (Obj.cells #[.int .i64 0, .int .i64 0, .int .i64 0, .int .i64 0, .int .i64 0, .int .i64 0, .int .i64 0, .int .i64 0, .int .i64 0, .int .i64 0, .int .i64 0, .int .i64 0, .int .i64 0, .int .i64 0, .int .i64 0, .int .i64 0, .int .i64 0, .int .i64 0, .int .i64 0, .int .i64 0, .int .i64 0, .int .i64 0, .int .i64 0, .int .i64 0, .int .i64 0, .int .i64 0, .int .i64 0, .int .i64 0, .int .i64 0, .int .i64 0, .int .i64 0, .int .i64 0, .int .i64 0, .int .i64 0, .slice none 0 0] 60 (0, 0)))
  have HZ := Shut.mk (show (w.alloc (Obj.cells #[.int .i64 0, .int .i64 0, .int .i64 0, .int .i64 0, .int .i64 0, .int .i64 0, .int .i64 0, .int .i64 0, .int .i64 0, .int .i64 0, .int .i64 0, .int .i64 0, .int .i64 0, .int .i64 0, .int .i64 0, .int .i64 0, .int .i64 0, .int .i64 0, .int .i64 0, .int .i64 0, .int .i64 0, .int .i64 0, .int .i64 0, .int .i64 0, .int .i64 0, .int .i64 0, .int .i64 0, .int .i64 0, .int .i64 0, .int .i64 0, .int .i64 0, .int .i64 0, .int .i64 0, .int .i64 0, .slice none 0 0] 60 (0, 0))).heap[w.heap.size]? = some (.cells ([] ++ zer35 ++ []).toArray 60 (0, 0)) from (MapKept.heap_alloc w (Obj.cells #[.int .i64 0, .int .i64 0, .int .i64 0, .int .i64 0, .int .i64 0, .int .i64 0, .int .i64 0, .int .i64 0, .int .i64 0, .int .i64 0, .int .i64 0, .int .i64 0, .int .i64 0, .int .i64 0, .int .i64 0, .int .i64 0, .int .i64 0, .int .i64 0, .int .i64 0, .int .i64 0, .int .i64 0, .int .i64 0, .int .i64 0, .int .i64 0, .int .i64 0, .int .i64 0, .int .i64 0, .int .i64 0, .int .i64 0, .int .i64 0, .int .i64 0, .int .i64 0, .int .i64 0, .int .i64 0, .slice none 0 0] 60 (0, 0))).1)
  have HS1 := Shut.mk (show w.heap.size < (w.alloc (Obj.cells #[.int .i64 0, .int .i64 0, .int .i64 0, .int .i64 0, .int .i64 0, .int .i64 0, .int .i64 0, .int .i64 0, .int .i64 0, .int .i64 0, .int .i64 0, .int .i64 0, .int .i64 0, .int .i64 0, .int .i64 0, .int .i64 0, .int .i64 0, .int .i64 0, .int .i64 0, .int .i64 0, .int .i64 0, .int .i64 0, .int .i64 0, .int .i64 0, .int .i64 0, .int .i64 0, .int .i64 0, .int .i64 0, .int .i64 0, .int .i64 0, .int .i64 0, .int .i64 0, .int .i64 0, .int .i64 0, .slice none 0 0] 60 (0, 0))).heap.size by simp)
  have HB := Shut.mk h.at_
  clear h
  go_enter Tryd.func29, Tryd.ntmps29
  go_wp2_with (fail)
  generalize World.alloc w _ = w1 at *
  have HSL := Shut.mk fun (w' : World) (hb : Below w1.heap.size w1 w') => show w'.cell? ⟨g, 34, none⟩ = some v from (HB.out.below (HW1.out.trans (hb.mono HW1.out.size))).cv
  have HR34 := Shut.mk fun (w' : World) (hb : Below w1.heap.size w1 w') => (HB.out.below (HW1.out.trans (hb.mono HW1.out.size))).range34
  refine wp_region_D (fun w' => Below w1.heap.size w1 w') 10 (by kernel_rfl) (show Below w1.heap.size w1 (World.drew w1) from (Below.refl _ _).drew) (fun hHeld hC => ?_)
  refine dP 0 hC hHeld ?_; clear hC; intro hC
  refine dP 1 hC hHeld ?_; clear hC; intro hC
  refine dP 2 hC hHeld ?_; clear hC; intro hC
  refine wpAnyD_take (i := 3) (v := .agg (row34 x y).toArray) 40 rfl (by kernel_rfl) hC (by kernel_rfl) (by kernel_rfl) (by kernel_rfl) (by decide) (fun _ _ _ h => h) (yieldsIf_load_mid (by rfl) 58 (.tmp 5) rfl g (0) rfl (row34 x y) _ (fun w' hSw => HR34.out _ hSw) Tryd.underlying58 rfl size34) (fun _ => hHeld) ?_
  try simp only [Act.put, List.getElem_toArray, List.getElem_cons_zero, List.getElem_cons_succ, List.setIfInBounds_toArray, List.set_cons_zero, List.set_cons_succ]
  clear hC
  intro hC
  refine dP 4 hC hHeld ?_; clear hC; intro hC
  refine dP 5 hC hHeld ?_; clear hC; intro hC
  refine dP 6 hC hHeld ?_; clear hC; intro hC
  refine dT 7 hC hHeld (fun w hSw => (HSL.out _ hSw)) ?_; clear hC; intro hC
  refine wpAnyD_one (i := 8) (by kernel_rfl) rfl hC (fun K hK => ?_)
  clear hC
  go_simp
  refine (cloneint_any _ v l (HR.out.below (HW1.out.trans (hHeld.mono HW1.out.size))) HL.out).mono ?_
  rintro e' w3 ⟨u, rfl, hRu, hBu, hFu⟩
  obtain ⟨A, c, rfl, -, -⟩ := hRu.form
  have HRU := Shut.mk hRu
  have HFU := Shut.mk (show ∀ k, (Value.slice A l.length c).ownBlock = some k → w1.heap.size ≤ k from fun k hk => Nat.le_trans hHeld.size (hFu k hk))
  have hHeld2 := hHeld.trans (hBu.mono hHeld.size)
  clear hRu hBu hFu
  clear hHeld
  have hHeld := hHeld2
  clear hHeld2
  refine hK.out _ _ (fun _ => hHeld) (fun hC => ?_)
  clear hK K
  try simp only [Act.put, List.getElem_toArray, List.getElem_cons_zero, List.getElem_cons_succ, List.setIfInBounds_toArray, List.set_cons_zero, List.set_cons_succ]
  refine wpAnyD_pure (i := 9) (v := .agg (c35 x y (.slice A l.length c))) rfl hC (by kernel_rfl) (by kernel_rfl) (by kernel_rfl) (by decide) (fun _ _ _ h => h) (Or.inl ⟨by rfl, ?_⟩) (fun _ => hHeld) ?_
  · intro w hSw
    kernel_rfl
  try simp only [Act.put, List.getElem_toArray, List.getElem_cons_zero, List.getElem_cons_succ, List.setIfInBounds_toArray, List.set_cons_zero, List.set_cons_succ]
  clear hC
  intro hC
  refine wpAnyD_one (i := 10) (by kernel_rfl) rfl hC (fun K hK => ?_)
  clear hC
  refine step_store_part rfl 60 (.tmp 2) (.tmp 12) rfl w.heap.size 0 (.agg (c35 x y (.slice A l.length c))) rfl rfl 60 [] (zer35) (row35 x y (.slice A l.length c)) [] (hHeld.block _ (lt_blk HZ.out) |>.trans HZ.out) rfl rfl rfl size35 (one35 x y (.slice A l.length c) HRU.out.one) ?_
  rw [app_nil2]
  have HN3 := Shut.mk (setRow_heap w3 w.heap.size _ (row35 x y (.slice A l.length c)).toArray _ (0, 0) (hHeld.block _ (lt_blk HZ.out) |>.trans HZ.out))
  have HB3 := Shut.mk (show Below w.heap.size w (w3.setRow w.heap.size (row35 x y (.slice A l.length c)).toArray) from (HW1.out.trans (hHeld.mono HW1.out.size)).trans ((only_setRow w3 w.heap.size _).below (fun i hi e => by have e : i = w.heap.size := e; omega) (HW1.out.trans (hHeld.mono HW1.out.size)).size))
  have HRU3 := Shut.mk (HRU.out.only (only_setRow w3 w.heap.size (row35 x y (.slice A l.length c)).toArray) (fun k hk e => by have h1 := HFU.out k hk; have h2 := HS1.out; omega))
  generalize hq : World.setRow w3 w.heap.size _ = w4 at *
  clear hq
  refine hK.out _ _ (past (by kernel_rfl)) (fun hC => ?_)
  clear hK K
  try simp only [Act.put, List.getElem_toArray, List.getElem_cons_zero, List.getElem_cons_succ, List.setIfInBounds_toArray, List.set_cons_zero, List.set_cons_succ]
  refine wpAnyD_done (by kernel_rfl) ?_ _
  try simp only [Act.put, List.getElem_toArray, List.getElem_cons_zero, List.getElem_cons_succ, List.setIfInBounds_toArray, List.set_cons_zero, List.set_cons_succ]
  clear hC hHeld
  go_wp2_with (fail)
  refine bodyPost_ret (v := .agg (c35 x y (.slice A l.length c))) (results_cell1 (p := 2) Tryd.results29 _ _ w.heap.size _ _ _ _ rfl HN3.out Tryd.underlying60 rfl size35) rfl ⟨_, rfl, HRU3.out, fun k hk => Nat.lt_of_lt_of_le HS1.out (HFU.out k hk), HB3.out⟩
end Go.Proofs.YtkmblmnffnhpmaaDoor
