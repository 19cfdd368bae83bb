/-
  CONTRACTS of package sched: Swap, Push, Pop.
-/
import Derived.Test.YtkmblmnffnhpmaaDoorSchedC
import Derived.Test.YtkmblmnffnhpmaaDoorHeldD
import Derived.Test.YtkmblmnffnhpmaaDoorTkD
import Derived.Test.YtkmblmnffnhpmaaDoorPlainB
import Derived.StillTailTactics
import Derived.LoopTactic
namespace Go.Proofs.YtkmblmnffnhpmaaDoor
open Go.ChangeShapes Go.WideShapes Go.ChangeAt Go.RowKit Go.Deep
set_option linter.unusedVariables false
set_option linter.unusedSimpArgs false

section
variable {w w' : World} {l : List Int}
/-- one element anew. -/
theorem RowN.put {b o cap n i : Nat} (h : RowN w (.slice (some ⟨b, o, none⟩) n cap) l) (hi : i < l.length) (u : Int) : ∃ cur new : Array Value, w.heap[b]? = some (.cells cur 3 (0, 0)) ∧ o + i < cur.size ∧ cur.setIfInBounds (o + i) (.int .i64 u) = new ∧ ∀ w' : World, w'.heap[b]? = some (.cells new 3 (0, 0)) → RowN w' (.slice (some ⟨b, o, none⟩) n cap) (l.set i u) := by
  rcases h.2 with ⟨h0, -⟩ | ⟨b', o', cap', pre, post, hv, hp, hg, hc, hm, hr⟩
  · cases h0
  · simp only [Value.slice.injEq, Option.some.injEq, Addr.mk.injEq, true_and, and_true] at hv
    obtain ⟨⟨rfl, rfl⟩, rfl, rfl⟩ := hv
    refine ⟨_, (pre ++ (l.set i u).map (Value.int .i64) ++ post).toArray, hg, ?_, ?_, fun w' hw => ⟨by simp, .inr ⟨b, o, cap, pre, post, by rw [List.length_set], hp, hw, by rw [List.length_set]; exact hc, hm, by rw [List.length_set]; exact hr⟩⟩⟩
    · simp only [List.size_toArray, List.length_append, List.length_map]
      omega
    · rw [List.setIfInBounds_toArray, List.append_assoc, List.append_assoc, List.set_append_right _ _ (by omega), List.set_append_left _ _ (by rw [List.length_map]; omega), List.map_set, show o + i - pre.length = i by omega]
theorem RowN.len_is {b o cap n : Nat} (h : RowN w (.slice (some ⟨b, o, none⟩) n cap) l) : n = l.length := by
  obtain ⟨A, c, hv, -⟩ := h.form
  cases hv
  rfl
theorem step_put_n {ops : Array Oper} {op : Oper} {a : Act} {K : Act → World → Prop} {Q : Exit → Act → World → Prop} {E : Prop} (hgd : Region.wanted op (yielded ops a.tmps) = true) (x y : Operand) (ho : op.op = .store 3 x y)
    (b o cap n i : Nat) (l : List Int) (u : Int) (hx : a.eval x = .pointer (some ⟨b, o + i, none⟩)) (hy : a.eval y = .int .i64 u) (hP : RowN w (.slice (some ⟨b, o, none⟩) n cap) l) (hi : i < l.length)
    (h : ∀ w', Shut (RowN w' (.slice (some ⟨b, o, none⟩) n cap) (l.set i u)) → Shut (Only (· = b) w w') → K (a.put op.dst undef) w') : if Region.wanted op (yielded ops a.tmps) = true then Oper.wp Tryd.prog op a w K Q else E := by
  obtain ⟨cur, new, h1, h2, h3, h4⟩ := hP.put hi u
  exact step_store_into hgd 3 x y ho b (o + i) (.int .i64 u) hx hy rfl 3 cur new h1 size1i h2 h3 (h _ ⟨h4 _ (setRow_heap w b cur new _ (0, 0) h1)⟩ ⟨only_setRow w b new⟩)
/-- the row without its last. -/
theorem RowN.init {b o cap n : Nat} {u : Int} (h : RowN w (.slice (some ⟨b, o, none⟩) n cap) (l ++ [u])) : RowN w (.slice (some ⟨b, o, none⟩) l.length cap) l := by
  rcases h.2 with ⟨h0, -⟩ | ⟨b', o', cap', pre, post, hv, hp, hg, hc, hm, hr⟩
  · cases h0
  · simp only [Value.slice.injEq, Option.some.injEq, Addr.mk.injEq, true_and, and_true] at hv
    obtain ⟨⟨rfl, rfl⟩, rfl, rfl⟩ := hv
    rw [List.length_append, List.length_singleton] at hc hr
    refine ⟨by simp, .inr ⟨b, o, cap, pre, .int .i64 u :: post, rfl, hp, ?_, by omega, hm, by rw [List.length_cons]; omega⟩⟩
    rw [hg]
    simp
end
/-! ### Swap -/
set_option maxRecDepth 100000 in
set_option maxHeartbeats 8000000 in
theorem swap_in (g : Nat) (w : World) (l : List Int) (i j n b o cap : Nat) (p q : Int) (hR : RowN w (.slice (some ⟨b, o, none⟩) n cap) l) (hi : i < n) (hj : j < n) (hl : n = l.length) (hn : n ≤ 1000) (hv : w.cell? ⟨g, 34, none⟩ = some (.slice (some ⟨b, o, none⟩) n cap))
    (hx : w.cell? ⟨b, o + i, none⟩ = some (.int .i64 p)) (hy : w.cell? ⟨b, o + j, none⟩ = some (.int .i64 q)) :
    Calls Tryd.prog 75 #[.pointer (some ⟨g, 0, none⟩), .int .i64 (i : Nat), .int .i64 (j : Nat)] w fun r w' => r = .returned (.tuple #[]) ∧ RowN w' (.slice (some ⟨b, o, none⟩) n cap) ((l.set i q).set j p) ∧ Only (· = b) w w' := by
  have HR := Shut.mk hR
  have HI := Shut.mk (show i < l.length by omega)
  have HJ := Shut.mk (show j < (l.set i q).length by rw [List.length_set]; omega)
  have HSL := Shut.mk fun (w' : World) (hb : Below w.heap.size w w') => show w'.cell? ⟨g, 34, none⟩ = some (.slice (some ⟨b, o, none⟩) n cap) from below_at hb hv
  have HXI := Shut.mk fun (w' : World) (hb : Below w.heap.size w w') => show w'.cell? ⟨b, o + i, none⟩ = some (.int .i64 p) from below_at hb hx
  have HXJ := Shut.mk fun (w' : World) (hb : Below w.heap.size w w') => show w'.cell? ⟨b, o + j, none⟩ = some (.int .i64 q) from below_at hb hy
  have hi0 : (0 : Int) ≤ (i : Int) := by omega
  have hi1 : (i : Int) < (n : Int) := by omega
  have hj0 : (0 : Int) ≤ (j : Int) := by omega
  have hj1 : (j : Int) < (n : Int) := by omega
  clear hR hi hj hl hn hv hx hy
  go_enter Tryd.func75, Tryd.ntmps75
  go_wp2_with (fail)
  refine wp_region_D (fun w' => Below w.heap.size w w') 25 (by kernel_rfl) (show Below w.heap.size w (World.drew w) from (Below.refl _ _).drew) (fun hHeld hC => ?_)
  refine dP 0 hC hHeld ?_; clear hC; intro hC
  refine dP 1 hC hHeld ?_; clear hC; intro hC
  refine dP 2 hC hHeld ?_; clear hC; intro hC
  refine dT 3 hC hHeld (fun w hSw => (HSL.out _ hSw)) ?_; clear hC; intro hC
  refine dP 4 hC hHeld ?_; clear hC; intro hC
  refine dP 5 hC hHeld ?_; clear hC; intro hC
  refine dP 6 hC hHeld ?_; clear hC; intro hC
  refine dP 7 hC hHeld ?_; clear hC; intro hC
  refine dT 8 hC hHeld (fun w hSw => (HSL.out _ hSw)) ?_; clear hC; intro hC
  refine dP 9 hC hHeld ?_; clear hC; intro hC
  refine dP 10 hC hHeld ?_; clear hC; intro hC
  refine dP 11 hC hHeld ?_; clear hC; intro hC
  refine dP 12 hC hHeld ?_; clear hC; intro hC
  refine dT 13 hC hHeld (fun w hSw => (HSL.out _ hSw)) ?_; clear hC; intro hC
  refine dP 14 hC hHeld ?_; clear hC; intro hC
  refine dP 15 hC hHeld ?_; clear hC; intro hC
  refine dT 16 hC hHeld (fun w hSw => (HXJ.out _ hSw)) ?_; clear hC; intro hC
  refine dP 17 hC hHeld ?_; clear hC; intro hC
  refine dP 18 hC hHeld ?_; clear hC; intro hC
  refine dP 19 hC hHeld ?_; clear hC; intro hC
  refine dT 20 hC hHeld (fun w hSw => (HSL.out _ hSw)) ?_; clear hC; intro hC
  refine dP 21 hC hHeld ?_; clear hC; intro hC
  refine dP 22 hC hHeld ?_; clear hC; intro hC
  refine dT 23 hC hHeld (fun w hSw => (HXI.out _ hSw)) ?_; clear hC; intro hC
  refine dP 24 hC hHeld ?_; clear hC; intro hC
  refine wpAnyD_one (i := 25) (by kernel_rfl) rfl hC (fun K hK => ?_)
  clear hC
  refine step_put_n rfl (.tmp 30) (.tmp 22) rfl b o cap n i l q rfl rfl (HR.out.below hHeld) HI.out ?_
  intro w2 hv2 ho2
  have HR2 := Shut.mk hv2.out
  have HO2 := Shut.mk ((Only.of_quiet (S := (· = b)) hHeld).trans ho2.out (fun _ _ e => e))
  clear hv2 ho2
  refine hK.out _ _ (past (by kernel_rfl)) (fun hC => ?_)
  clear hK K
  try simp only [Act.put, List.getElem_toArray, List.getElem_cons_zero, List.getElem_cons_succ, List.setIfInBounds_toArray, List.set_cons_zero, List.set_cons_succ]
  refine dQ 26 hC ?_; clear hC; intro hC
  refine wpAnyD_one (i := 27) (by kernel_rfl) rfl hC (fun K hK => ?_)
  clear hC
  refine step_put_n rfl (.tmp 31) (.tmp 29) rfl b o cap n j _ p rfl rfl HR2.out HJ.out ?_
  intro w3 hv3 ho3
  have HR3 := Shut.mk hv3.out
  have HO3 := Shut.mk (HO2.out.trans ho3.out (fun _ _ e => e))
  clear hv3 ho3
  refine hK.out _ _ (past (by kernel_rfl)) (fun hC => ?_)
  clear hK K
  try simp only [Act.put, List.getElem_toArray, List.getElem_cons_zero, List.getElem_cons_succ, List.setIfInBounds_toArray, List.set_cons_zero, List.set_cons_succ]
  refine wpAnyD_done (by kernel_rfl) ?_ _
  try simp only [Act.put, List.getElem_toArray, List.getElem_cons_zero, List.getElem_cons_succ, List.setIfInBounds_toArray, List.set_cons_zero, List.set_cons_succ]
  clear hC
  go_wp2_with (fail)
  refine bodyPost_end (results_none (fn := Tryd.f75) rfl _ _ _) rfl ?_
  exact ⟨rfl, HR3.out, HO3.out⟩
theorem swap_tu (T : TypeId) (S : Nat → Prop) (g : Nat) (x y : Nat → Int) (w : World) (l : List Int) (i j : Nat) (h : IsTu T S g x y w l) (hi : i < l.length) (hj : j < l.length) :
    Calls Tryd.prog 75 #[.pointer (some ⟨g, 0, none⟩), .int .i64 (i : Nat), .int .i64 (j : Nat)] w fun r w' => r = .returned (.tuple #[]) ∧ IsTu T S g x y w' (swapL 0 l i j) ∧ Only S w w' := by
  obtain ⟨b, o, cap, a, h1, h2, h3, h4, h5, h6, h7, h8⟩ := h.el hi
  obtain ⟨b', o', cap', a', h1', -, -, -, -, h6', h7', h8'⟩ := h.el hj
  have e := h1.cv.symm.trans h1'.cv
  simp only [Option.some.injEq, Value.slice.injEq, Addr.mk.injEq, true_and, and_true] at e
  obtain ⟨⟨rfl, rfl⟩, rfl⟩ := e
  refine (swap_in g w l i j _ b o cap _ _ h2 hi hj rfl h.few h1.cv h6 h6').mono ?_
  rintro r w' ⟨rfl, hR, hO⟩
  rw [← h8, ← h8'] at hR
  refine ⟨rfl, ⟨⟨_, hO.at_ h1 (fun e => h4 e.symm), hR, fun k hk => ?_⟩, by rw [swapL_len]; exact h.few, fun u hu => h.aid u ((swapL_perm 0 l hi hj).mem_iff.1 hu), h.sg⟩, hO.mono fun k _ e => e ▸ h3⟩
  have e2 : b = k := by simpa [Value.ownBlock] using hk
  subst e2
  exact ⟨h3, h4⟩
/-! ### Push -/
theorem ta_any (u : Int) (w : World) : (Instr.typeAssert (.iface 3 (.int .i64 u)) 20 3 false).run Tryd.prog w = .ok (.int .i64 u) w := by kernel_rfl
set_option maxRecDepth 100000 in
set_option maxHeartbeats 8000000 in
theorem push_in (T : TypeId) (g : Nat) (x y : Nat → Int) (w : World) (l : List Int) (v : Value) (u : Int) (hB : At35 T w g x y v) (hR : RowN w v l) (hl : l.length ≤ 1000) (hng : ∀ k, v.ownBlock = some k → k ≠ g) :
    Calls Tryd.prog 74 #[.pointer (some ⟨g, 0, none⟩), .iface 3 (.int .i64 u)] w fun r w' => r = .returned (.tuple #[]) ∧ ∃ v', At35 T w' g x y v' ∧ RowN w' v' (l ++ [u]) ∧ (∀ k, v'.ownBlock = some k → k ≠ g ∧ (v.ownBlock = some k ∨ w.heap.size ≤ k)) ∧ Only (fun k => k = g ∨ v.ownBlock = some k) w w' := by
  obtain ⟨w5, hw5⟩ : ∃ w5, w5 = World.drew w := ⟨_, rfl⟩
  have HW5 := Shut.mk hw5
  have HSZ := Shut.mk (show w5.heap.size = w.heap.size by rw [hw5]; rfl)
  have HO5 := Shut.mk (show Only (fun k => k = g ∨ v.ownBlock = some k) w w5 by rw [hw5]; exact (Only.refl _ w).drew 1)
  have HB5 := Shut.mk (show At35 T w5 g x y v by rw [hw5]; exact hB)
  have HR5 := Shut.mk (show RowN w5 v l by rw [hw5]; exact hR)
  have HNG := Shut.mk hng
  have HLL := Shut.mk (show l.length ≤ 1000000 by omega)
  have HSL := Shut.mk fun (w' : World) (h : Only (fun k => v.ownBlock = some k) w5 w') => show w'.cell? ⟨g, 34, none⟩ = some v from h.cell HB5.out.cv (fun e => HNG.out _ e rfl)
  clear hw5 hB hR hng hl
  go_enter Tryd.func74, Tryd.ntmps74
  go_wp2_with (fail)
  refine wp_region_D (fun w' => Only (fun k => v.ownBlock = some k) w5 w') 11 (by kernel_rfl) (show Only (fun k => v.ownBlock = some k) w5 (World.drew w) by rw [HW5.out]; exact Only.refl _ _) (fun hHeld hC => ?_)
  rw [← HW5.out] at hHeld ⊢
  refine dP 0 hC hHeld ?_; clear hC; intro hC
  refine dP 1 hC hHeld ?_; clear hC; intro hC
  refine dP 2 hC hHeld ?_; clear hC; intro hC
  refine dP 3 hC hHeld ?_; clear hC; intro hC
  refine dT 4 hC hHeld (fun w hSw => (HSL.out _ hSw)) ?_; clear hC; intro hC
  refine dP 5 hC hHeld ?_; clear hC; intro hC
  refine wpAnyD_pure (i := 6) (v := ?_) rfl hC (by kernel_rfl) (by kernel_rfl) (by kernel_rfl) (by decide) (fun _ _ _ h => h) (Or.inl ⟨by rfl, ?_⟩) (fun _ => hHeld) ?_
  rotate_left
  · intro w hSw
    have hz := ta_any u w
    clear hSw
    go_simp
    try with_reducible rfl
  try simp only [Act.put, List.getElem_toArray, List.getElem_cons_zero, List.getElem_cons_succ, List.setIfInBounds_toArray, List.set_cons_zero, List.set_cons_succ]
  clear hC
  intro hC
  refine wpAnyD_one (i := 7) (by kernel_rfl) rfl hC (fun K hK => ?_)
  clear hC
  go_simp
  have HA6 := Shut.mk ((Below.refl w5.heap.size w5).alloc (Nat.le_refl _) (Obj.cells #[.int .i64 u] 3 (0, 0)))
  have HN6 := Shut.mk (block_range (MapKept.heap_alloc w5 (Obj.cells #[.int .i64 u] 3 (0, 0))).1)
  have HR6 := Shut.mk (HR5.out.below HA6.out)
  have HB6 := Shut.mk ((HA6.out.block _ (lt_blk HB5.out)).trans HB5.out)
  generalize World.alloc w5 _ = w6 at *
  have hHeld2 := hHeld.then_quiet HA6.out
  clear hHeld
  have hHeld := hHeld2
  clear hHeld2
  refine hK.out _ _ (fun _ => hHeld) (fun hC => ?_)
  clear hK K
  try simp only [Act.put, List.getElem_toArray, List.getElem_cons_zero, List.getElem_cons_succ, List.setIfInBounds_toArray, List.set_cons_zero, List.set_cons_succ]
  refine wpAnyD_one (i := 8) (by kernel_rfl) rfl hC (fun K hK => ?_)
  clear hC
  refine step_app_n rfl (.tmp 8) (.tmp 11) rfl v l rfl HR6.out u ⟨w5.heap.size, 0, none⟩ 1 rfl (fun j q hq => by rw [Addr.add_mid]; exact HN6.out j q hq) HLL.out ?_
  intro v' w7 hP hO hf
  have HR7 := Shut.mk hP
  have HF7 := Shut.mk hf
  have HB7 := Shut.mk (hO.at_ HB6.out (fun e => HNG.out _ e rfl))
  have hHeld2 := hHeld.trans hO (fun _ _ e => e)
  clear hP hO hf
  clear hHeld
  have hHeld := hHeld2
  clear hHeld2
  refine hK.out _ _ (fun _ => hHeld) (fun hC => ?_)
  clear hK K
  try simp only [Act.put, List.getElem_toArray, List.getElem_cons_zero, List.getElem_cons_succ, List.setIfInBounds_toArray, List.set_cons_zero, List.set_cons_succ]
  refine dP 9 hC hHeld ?_; clear hC; intro hC
  refine dP 10 hC hHeld ?_; clear hC; intro hC
  refine wpAnyD_one (i := 11) (by kernel_rfl) rfl hC (fun K hK => ?_)
  clear hC
  refine step_store_into rfl 32 (.tmp 14) (.tmp 12) rfl g 34 v' rfl rfl HR7.out.one T (c35 x y v) (c35 x y v') HB7.out size1N (by show 34 < 35; decide) rfl ?_
  have HGV := Shut.mk (show ∀ k, v'.ownBlock = some k → k ≠ g from fun k hk => by
    rcases HF7.out k hk with h1 | h1
    · exact HNG.out k h1
    · have := lt_blk HB6.out; have := lt_blk HB5.out; omega)
  have HR8 := Shut.mk (HR7.out.only (only_setRow w7 g (c35 x y v')) (fun k hk e => HGV.out k hk e))
  have HB8 := Shut.mk (setRow_heap w7 g _ (c35 x y v') _ (0, 0) HB7.out)
  have HO8 := Shut.mk (show Only (fun k => k = g ∨ v.ownBlock = some k) w5 (w7.setRow g (c35 x y v')) from ((hHeld.mono (T := fun k => k = g ∨ v.ownBlock = some k) fun _ _ e => .inr e).setRow (g := g) (fun _ => .inl rfl) _))
  have HF8 := Shut.mk (show ∀ k, v'.ownBlock = some k → v.ownBlock = some k ∨ w5.heap.size ≤ k from fun k hk => by
    rcases HF7.out k hk with h1 | h1
    · exact .inl h1
    · exact .inr (by have := HA6.out.size; omega))
  generalize hq : World.setRow w7 g _ = w8 at *
  clear hq
  refine hK.out _ _ (past (by kernel_rfl)) (fun hC => ?_)
  clear hK K
  try simp only [Act.put, List.getElem_toArray, List.getElem_cons_zero, List.getElem_cons_succ, List.setIfInBounds_toArray, List.set_cons_zero, List.set_cons_succ]
  refine wpAnyD_done (by kernel_rfl) ?_ _
  try simp only [Act.put, List.getElem_toArray, List.getElem_cons_zero, List.getElem_cons_succ, List.setIfInBounds_toArray, List.set_cons_zero, List.set_cons_succ]
  clear hC
  go_wp2_with (fail)
  refine bodyPost_end (results_none (fn := Tryd.f74) rfl _ _ _) rfl ?_
  exact ⟨rfl, v', HB8.out, HR8.out, fun k hk => ⟨HGV.out k hk, by rw [← HSZ.out]; exact HF8.out k hk⟩, HO5.out.trans HO8.out (fun _ _ e => e)⟩
/-! ### Pop -/
set_option maxRecDepth 100000 in
set_option maxHeartbeats 8000000 in
theorem pop_in (T : TypeId) (g : Nat) (x y : Nat → Int) (w : World) (n b o cap : Nat) (u : Int) (hB : At35 T w g x y (.slice (some ⟨b, o, none⟩) (n + 1) cap)) (hu : w.cell? ⟨b, o + n, none⟩ = some (.int .i64 u)) (hn : n + 1 ≤ 1000) (hc : n + 1 ≤ cap) :
    Calls Tryd.prog 73 #[.pointer (some ⟨g, 0, none⟩)] w fun r w' => r = .returned (.iface 3 (.int .i64 u)) ∧ At35 T w' g x y (.slice (some ⟨b, o, none⟩) n cap) ∧ Only (· = g) w w' := by
  have HB := Shut.mk hB
  have hv := hB.cv
  have HS := Shut.mk (setRow_heap w g _ (c35 x y (.slice (some ⟨b, o, none⟩) n cap)) _ (0, 0) hB)
  have HO := Shut.mk (only_setRow w g (c35 x y (.slice (some ⟨b, o, none⟩) n cap)))
  obtain ⟨m, hm⟩ : ∃ m, m = n + 1 := ⟨_, rfl⟩
  have y1 : IntKind.i64.wrap ((m : Int) - 1) = (n : Int) := by rw [IntWalk.i64_in _ ⟨by omega, by omega⟩]; omega
  rw [← hm] at hv hc HB
  have h1 : (0 : Int) ≤ (n : Int) := by omega
  have h2 : (n : Int) < (m : Int) := by omega
  have h3 : (n : Int) ≤ (cap : Int) := by omega
  have h4 : n ≤ cap := by omega
  clear hB hn hm
  go_enter Tryd.func73, Tryd.ntmps73
  go_wp2_with (first
    | (refine wpList_store_into rfl 32 (.tmp 26) (.tmp 24) rfl g 34 (.slice (some ⟨b, o, none⟩) n cap) rfl rfl rfl T (c35 x y (.slice (some ⟨b, o, none⟩) m cap)) (c35 x y (.slice (some ⟨b, o, none⟩) n cap)) HB.out size1N (by show 34 < 35; decide) rfl ?_; generalize hq : World.setRow w g _ = w8 at *; clear hq))
  go_ret
  exact ⟨rfl, HS.out, HO.out⟩
theorem pop_tu (T : TypeId) (S : Nat → Prop) (g : Nat) (x y : Nat → Int) (w : World) (l : List Int) (u : Int) (h : IsTu T S g x y w (l ++ [u])) :
    Calls Tryd.prog 73 #[.pointer (some ⟨g, 0, none⟩)] w fun r w' => r = .returned (.iface 3 (.int .i64 u)) ∧ IsTu T S g x y w' l ∧ Only S w w' := by
  have hlen : (l ++ [u]).length = l.length + 1 := by simp
  obtain ⟨b, o, cap, a, h1, h2, h3, h4, h5, h6, h7, h8⟩ := h.el (i := l.length) (by omega)
  have e : (l ++ [u]).getD l.length 0 = u := by simp [List.getD]
  rw [← h8, e] at h6
  rw [hlen] at h1 h5
  have hf := h.few
  refine (pop_in T g x y w l.length b o cap u h1 h6 (by omega) h5).mono ?_
  rintro r w' ⟨rfl, hB, hO⟩
  refine ⟨rfl, ⟨⟨_, hB, h2.init.only hO (fun k hk e => ?_), fun k hk => ?_⟩, by omega, fun a ha => h.aid a (List.mem_append_left _ ha), h.sg⟩, hO.mono fun k _ e => e ▸ h.sg⟩
  · have e2 : b = k := by simpa [Value.ownBlock] using hk
    exact h4 (e2.trans e)
  · have e2 : b = k := by simpa [Value.ownBlock] using hk
    subst e2
    exact ⟨h3, h4⟩
end Go.Proofs.YtkmblmnffnhpmaaDoor
