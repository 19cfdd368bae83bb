/-
  NUMBERS in rows that begin anywhere; CONTRACTS of slices.Index, Contains, Delete (of the first) at []int; of fq's join and leave.
-/
import Derived.Test.YtndkmgcmegcieaaGreatDoorFqH
import Derived.StillTailTactics
namespace Go.Proofs.YtndkmgcmegcieaaGreatDoor
open Go.ChangeShapes Go.WideShapes Go.ChangeAt Go.RowKit Go.Deep
set_option linter.unusedVariables false
set_option linter.unusedSimpArgs false
def RowN (w : World) (v : Value) (l : List Int) : Prop := RowAt w 3 1 v l.length (l.map (Value.int .i64))
section
variable {w w' : World} {v : Value} {l : List Int} {S : Nat → Prop}
theorem RowN.nil (w : World) : RowN w (.slice none 0 0) [] := RowAt.nil _ _ _
theorem RowN.only (h : RowN w v l) (ho : Only S w w') (hn : ∀ g, v.ownBlock = some g → ¬ S g) : RowN w' v l := RowAt.only h ho hn
theorem RowN.lt (h : RowN w v l) : ∀ g, v.ownBlock = some g → g < w.heap.size := RowAt.lt h
theorem RowN.form (h : RowN w v l) : ∃ A cap, v = .slice A l.length cap ∧ l.length ≤ cap ∧ (A = none → cap = 0) := by
 obtain ⟨A, cap, rfl, hc, hn⟩ := RowAt.form h
 exact ⟨A, cap, rfl, hc, fun e => (hn e).2⟩
theorem RowN.one (h : RowN w v l) : v.oneCell' = true := by obtain ⟨A, c, rfl, -⟩ := h.form; rfl
theorem RowN.row {A : Option Addr} {c : Nat} (h : RowN w (.slice A l.length c) l) (hl : l.length ≤ maxLen) (hw : ∀ x ∈ l, -9223372036854775808 ≤ x ∧ x ≤ 9223372036854775807) : RowB .i64 w A l.length l := by
 refine ⟨rfl, hl, fun i hi => ?_, fun hp => ?_⟩
 ·have hm : l.getD i 0 ∈ l := mem_getD hi
  have := hw _ hm
  have a : IntKind.i64.min = -9223372036854775808 := by decide
  have b : IntKind.i64.max = 9223372036854775807 := by decide
  rw [a, b]; exact this
 ·obtain ⟨g, o, cap, e1, hr, -, -⟩ := RowAt.cells h hp
  cases e1
  refine ⟨g, o, rfl, fun i hi => hr i _ ?_⟩
  simp [List.getD, hi]
end
theorem step_app_n {ops : Array Oper} {o : Oper} {a : Act} {w : World} {K : Act → World → Prop} {Q : Exit → Act → World → Prop} {E : Prop} (hgd : o.guard = none) (s x : Operand)
 (ho : o.op = .call { callee := .builtin .append, args := #[s, x], argTypes := #[88, 88] })
 (lv : Value) (l : List Int) (hs : a.eval s = lv) (hP : RowN w lv l) (u : Int) (ad : Addr) (c : Nat) (hx : a.eval x = .slice (some ad) 1 c) (hc : ∀ j q, [Value.int .i64 u][j]? = some q → w.cell? (ad.add j) = some q)
 (hk : l.length ≤ 1000000)
 (h : ∀ v w', RowN w' v (l ++ [u]) → Only (fun j => lv.ownBlock = some j) w w' → (∀ g, v.ownBlock = some g → lv.ownBlock = some g ∨ g = w.heap.size) → K (a.put o.dst v) w') :
 if Region.wanted o (yielded ops a.tmps) = true then Oper.wp Tryz.prog o a w K Q else E := by
 obtain ⟨i0, hi0, hz0, hz1, hz2⟩ := info_parts' int_info
 refine step_append_at hgd s x 88 ho 3 i0 (.int .i64 0) 1 8 Tryz.underlying88 hi0 hz0 hz1 hz2 rfl lv l.length _ hs hP ad 1 c [Value.int .i64 u] hx rfl hc (by intro q hq; rw [List.mem_singleton.1 hq]; rfl) (by omega) (by unfold maxLen; omega) (by omega) ?_
 intro g of cap w' h4 h5 h6
 refine h _ w' ?_ ((Only.refl _ w).grown h5 fun k hk _ => hk) fun g' hg' => ?_
 ·unfold RowN
  rw [List.map_append, List.length_append]
  exact h4
 ·have e1 : g' = g := by simpa [Value.ownBlock] using hg'.symm
  rw [e1]; exact h6
set_option maxRecDepth 100000 in
set_option maxHeartbeats 8000000 in
theorem index_any (A : Option Addr) (n c : Nat) (xs : List Int) (v : Int) (w : World) (h : RowB .i64 w A n xs) :
 Calls Tryz.prog 78 #[.slice A n c, .int .i64 v] w fun e w' => (∃ i : Int, e = .returned (.int .i64 i) ∧ (0 ≤ i ↔ v ∈ xs)) ∧ w = w' := by
 have hl := h.len
 have hle := h.le
 unfold maxLen at hle
 have HC := Lib.hid (fun i hi => h.el i hi)
 have HL := Lib.hid hl
 clear h hl
 go_enter Tryz.func78, Tryz.ntmps78
 go_wp2
 go_loop [8] (fun i => ∃ k : Nat, k ≤ n ∧ i = .int .i64 k ∧ v ∉ xs.take k) (fun i => n - (intOf i).toNat)
 case atStart => exact ⟨0, by omega, rfl, by simp⟩
 case round =>
  obtain ⟨k, hk, rfl, hnot⟩ := hrel
  by_cases hlt : k < n
  ·obtain ⟨b, off, rfl, hc⟩ := HC.out k hlt
   have hi : (k : Int) < (n : Int) := by omega
   by_cases he : xs.getD k 0 = v
   ·have HS := Lib.hid (show decide (v ∈ xs) = true from decide_eq_true (by rw [← he]; exact mem_getD (by rw [HL.out]; exact hlt)))
    rw [he] at hc
    have hb' : (v == v) = true := by simp
    clear he hnot
    go_wp2
    go_ret
    exact ⟨⟨_, rfl, ⟨fun _ => of_decide_eq_true HS.out, fun _ => by omega⟩⟩, rfl⟩
   ·have HS := Lib.hid (notmem_step' hnot (by rw [HL.out]; exact hlt) he)
    have hb' : (v == xs.getD k 0) = false := by simpa using fun e => he e.symm
    generalize xs.getD k 0 = x at *
    clear he hnot
    go_wp2
    go_round
    case rel => exact ⟨k + 1, by omega, by go_num, HS.out⟩
    case measure => simp [intOf]; omega
  ·have HS := Lib.hid (show decide (v ∈ xs) = false by
    rw [List.take_of_length_le (by rw [HL.out]; omega)] at hnot
    exact decide_eq_false hnot)
   clear hnot
   go_wp2
   go_ret
   exact ⟨⟨_, rfl, ⟨fun h => by omega, fun h => absurd h (of_decide_eq_false HS.out)⟩⟩, rfl⟩
set_option maxRecDepth 100000 in
set_option maxHeartbeats 8000000 in
theorem contains_any (A : Option Addr) (n c : Nat) (xs : List Int) (v : Int) (w : World) (h : RowB .i64 w A n xs) :
 Calls Tryz.prog 56 #[.slice A n c, .int .i64 v] w fun e w' => e = .returned (.bool (decide (v ∈ xs))) ∧ w = w' := by
 have HR := Lib.hid h
 clear h
 go_enter Tryz.func56, Tryz.ntmps56
 go_wp2_with (fail)
 refine (index_any A n c xs v _ HR.out).mono ?_
 rintro e w1 ⟨⟨i, rfl, hi⟩, rfl⟩
 have HI := Lib.hid hi
 clear hi
 go_wp2
 go_ret
 exact ⟨ret_b (decide_eq_decide.2 HI.out.symm), rfl⟩
theorem run_append_front {P : Program} (w : World) (t ty e : TypeId) (i : TypeInfo) (ht : P.underlying t = some (.slice e)) (hi : P.info? e = some i) (hs : i.size = 1) (g o cp : Nat) (pre post : List Value) (x : Value) (r : List Value)
 (hp : pre.length = o) (hg : w.heap[g]? = some (.cells (pre ++ (x :: r) ++ post).toArray e (0, 0))) (hc : r.length ≤ cp) (A : Addr) (c n : Nat) (hn : r.length = n) (hA : 0 < r.length → A = ⟨g, o + 1, none⟩) (h1 : ∀ u ∈ r, u.oneCell' = true) :
 (Builtin.append_ #[t, t] ty #[.slice (some ⟨g, o, none⟩) 0 cp, .slice (some A) n c]).run P w = .ok (.slice (some ⟨g, o, none⟩) n cp) (w.setRow g (pre ++ (r ++ (x :: r).drop n) ++ post).toArray) := by
 subst hn
 have hnews : ∀ j u, r[j]? = some u → w.cell? (A.add j) = some u := fun j u hu => by
  have hj : j < r.length := (List.getElem?_eq_some_iff.1 hu).1
  rw [hA (by omega), Addr.add_mid, Nat.add_assoc]
  exact mid_cell hg hp (by rw [Nat.add_comm, List.getElem?_cons_succ]; exact hu)
 have hf := run_firstCells_some (P := P) w i.size r.length A r.length c r (by rw [hs, Nat.mul_one]) hnews
 have hst := run_storeCells_at P g o e r 0 _ w hg (by simp only [List.size_toArray, List.length_append, List.length_cons]; omega) h1
 have e1 : (pre ++ (x :: r) ++ post).toArray.toList.take (o + 0) ++ r ++ (pre ++ (x :: r) ++ post).toArray.toList.drop (o + 0 + r.length) = pre ++ (r ++ (x :: r).drop r.length) ++ post := by
  have e2 : (pre ++ (x :: r) ++ post).take pre.length = pre := by rw [List.append_assoc, List.take_left]
  have e3 : (pre ++ (x :: r) ++ post).drop (pre.length + r.length) = (x :: r).drop r.length ++ post := by
   rw [List.append_assoc, List.drop_append, List.drop_eq_nil_of_le (by omega), List.nil_append, show pre.length + r.length - pre.length = r.length by omega, List.drop_append_of_le_length (by simp)]
  simp only [List.toList_toArray, Nat.add_zero, ← hp]
  rw [e2, e3]
  simp only [List.append_assoc]
 rw [e1] at hst
 simp at hst
 simp [Builtin.append_, run_underlying ht, sizeOf, typeInfo, hi, Builtin.lenOf, hc, hf, Addr.add_lit, hst]
theorem step_append_front {P : Program} {ops : Array Oper} {oo : Oper} {a : Act} {w : World} {K : Act → World → Prop} {Q : Exit → Act → World → Prop} {E : Prop} (hgd : oo.guard = none) (s y : Operand) (t e : TypeId)
 (hop : oo.op = .call { callee := .builtin .append, args := #[s, y], argTypes := #[t, t] }) (i : TypeInfo) (ht : P.underlying t = some (.slice e)) (hi : P.info? e = some i) (hsz : i.size = 1) (g o cp : Nat) (pre post : List Value) (x : Value) (r : List Value)
 (hp : pre.length = o) (hg : w.heap[g]? = some (.cells (pre ++ (x :: r) ++ post).toArray e (0, 0))) (hc : r.length ≤ cp) (A : Addr) (c n : Nat) (hn : r.length = n) (hA : 0 < r.length → A = ⟨g, o + 1, none⟩) (h1 : ∀ u ∈ r, u.oneCell' = true)
 (hs : a.eval s = .slice (some ⟨g, o, none⟩) 0 cp) (hy : a.eval y = .slice (some A) n c)
 (h : K (a.put oo.dst (.slice (some ⟨g, o, none⟩) n cp)) (w.setRow g (pre ++ (r ++ (x :: r).drop n) ++ post).toArray)) :
 if Region.wanted oo (yielded ops a.tmps) = true then Oper.wp P oo a w K Q else E := by
 have hw : Region.wanted oo (yielded ops a.tmps) = true := by simp [Region.wanted, hgd]
 rw [if_pos hw]
 have hr := run_append_front (P := P) w t oo.type e i ht hi hsz g o cp pre post x r hp hg hc A c n hn hA h1
 unfold Oper.wp execOp
 simp only [hop, resolve, invoke, builtin, Sem.run_bind, Sem.run_pure, Result.andThen_ok, List.map_toArray, List.map_cons, List.map_nil, hs, hy, hr]
 exact h
theorem drop_last {α : Type} (x : α) (r : List α) : ∃ z, (x :: r).drop r.length = [z] := by
 have hl : ((x :: r).drop r.length).length = 1 := by simp
 match h : (x :: r).drop r.length, hl with
 | [z], _ => exact ⟨z, rfl⟩
theorem wpList_clear_one {P : Program} {ops : Array Oper} {rest : List Oper} {oo : Oper} {a : Act} {w : World} {Q : Exit → Act → World → Prop} (hgd : oo.guard = none) (x : Operand) (t e : TypeId)
 (hop : oo.op = .call { callee := .builtin .clear, args := #[x], argTypes := #[t] }) (i : TypeInfo) (zv : Value) (ht : P.underlying t = some (.slice e)) (hi : P.info? e = some i) (hz : i.zero = some zv) (hz1 : zv.cells = #[zv]) (h1 : zv.oneCell' = true)
 (g o c : Nat) (hx : a.eval x = .slice (some ⟨g, o, none⟩) 1 c) (pre post : List Value) (z : Value) (hp : pre.length = o) (hg : w.heap[g]? = some (.cells (pre ++ [z] ++ post).toArray e (0, 0)))
 (h : wpList P ops Q rest (a.put oo.dst (.tuple #[])) (w.setRow g (pre ++ [zv] ++ post).toArray)) : wpList P ops Q (oo :: rest) a w :=
 wpList_plain hgd fun _ hK => by
  have hst := run_storeCells_at P g o e [zv] 0 _ w hg (by simp; omega) (by intro u hu; rw [List.mem_singleton.1 hu]; exact h1)
  have e1 : (pre ++ [z] ++ post).toArray.toList.take (o + 0) ++ [zv] ++ (pre ++ [z] ++ post).toArray.toList.drop (o + 0 + [zv].length) = pre ++ [zv] ++ post := by
   simp only [List.toList_toArray, Nat.add_zero, ← hp]
   rw [List.append_assoc pre [z], List.take_left, List.drop_append, List.drop_eq_nil_of_le (by omega)]
   simp
  rw [e1] at hst
  have hr : (Builtin.clear_ #[t] oo.type #[.slice (some ⟨g, o, none⟩) 1 c]).run P w = .ok (.tuple #[]) (w.setRow g (pre ++ [zv] ++ post).toArray) := by
   simp at hst
   simp [Builtin.clear_, run_underlying ht, zeroValue, typeInfo, hi, hz, Builtin.zeroCells, hz1, hst, Result.andThen]
  unfold Oper.wp execOp
  simp only [hop, resolve, invoke, builtin, Sem.run_bind, Sem.run_pure, Result.andThen_ok, List.map_toArray, List.map_cons, List.map_nil, hx, hr]
  exact hK _ _ h
set_option maxRecDepth 100000 in
set_option maxHeartbeats 8000000 in
theorem delete_any (v : Value) (x : Int) (r : List Int) (w : World) (h : RowN w v (x :: r)) (hl : r.length ≤ 1000000) :
 Calls Tryz.prog 85 #[v, .int .i64 0, .int .i64 1] w fun e w' => ∃ u, e = .returned u ∧ RowN w' u r ∧ Only (fun k => v.ownBlock = some k) w w' ∧ u.ownBlock = v.ownBlock := by
 obtain ⟨i0, hi0, hz0, hz1, hz2⟩ := info_parts' int_info
 obtain ⟨hlen, h2⟩ := h
 rcases h2 with ⟨-, h0⟩ | ⟨b, o, cp, pre, post, rfl, hp, hg, hnc, hm, hrm⟩
 ·simp at h0
 obtain ⟨n, hn⟩ : ∃ n, r.length = n := ⟨_, rfl⟩
 rw [List.length_cons, hn] at hnc hrm ⊢
 rw [hn] at hl
 have HRL := Shut.mk (show (r.map (Value.int .i64)).length = n by rw [List.length_map]; exact hn)
 have HNC := Shut.mk (show n ≤ cp by omega)
 have HRM := Shut.mk hrm
 have HCM := Shut.mk hm
 have HN := Shut.mk hn
 have HHP := Shut.mk hp
 have hcp : cp ≤ 9223372036854775807 := by unfold maxLen at hm; omega
 have HG0 := Shut.mk (show w.heap[b]? = some (.cells (pre ++ (Value.int .i64 x :: r.map (Value.int .i64)) ++ post).toArray 3 (0, 0)) from by simpa using hg)
 obtain ⟨AA, hAA⟩ : ∃ AA : Addr, (if cp = 1 then some (⟨b, o, none⟩ : Addr) else some ⟨b, o + 1, none⟩) = some AA := by split <;> exact ⟨_, rfl⟩
 have HAA := Shut.mk (show 0 < (r.map (Value.int .i64)).length → AA = ⟨b, o + 1, none⟩ from fun h => by
  rw [if_neg (by rw [HRL.out] at h; omega)] at hAA
  exact (Option.some.inj hAA).symm)
 have hncap : ¬ cp = n := by omega
 have hnl : n + 1 ≤ cp := hnc
 have b0 : (n : Int) + 1 ≤ (cp : Int) := by omega
 have b1 : (0 : Int) ≤ (n : Int) := by omega
 have b2 : (1 : Int) ≤ (n : Int) + 1 := by omega
 have e01 : ((0 : Int) == 1) = false := by decide
 clear hg hrm hm hn hlen hp
 go_enter Tryz.func85, Tryz.ntmps85
 go_wp2_with (fail)
 obtain ⟨wD, hwD⟩ : ∃ wD, wD = World.drew w := ⟨_, rfl⟩
 have HWD := Shut.mk hwD
 have HGD := Shut.mk (show wD.heap[b]? = some (.cells (pre ++ (Value.int .i64 x :: r.map (Value.int .i64)) ++ post).toArray 3 (0, 0)) by rw [hwD]; exact HG0.out)
 have HOD := Shut.mk (show Only (fun k => some b = some k) w wD by rw [hwD]; exact ⟨rfl, rfl, rfl, Nat.le_refl _, fun _ _ _ => rfl⟩)
 clear hwD
 refine wp_region_D (fun w' => wD = w') 6 (by kernel_rfl) HWD.out (fun hHeld hC => ?_)
 rw [← HWD.out] at hHeld ⊢
 refine dP 0 hC hHeld ?_; clear hC; intro hC
 refine dP 1 hC hHeld ?_; clear hC; intro hC
 refine dP 2 hC hHeld ?_; clear hC; intro hC
 refine dP 3 hC hHeld ?_; clear hC; intro hC
 refine dP 4 hC hHeld ?_; clear hC; intro hC
 refine dP 5 hC hHeld ?_; clear hC; intro hC
 refine wpAnyD_one (i := 6) (by kernel_rfl) rfl hC (fun K hK => ?_)
 clear hC
 refine step_append_front rfl (.tmp 22) (.tmp 25) 88 3 rfl i0 Tryz.underlying88 hi0 hz1 b o cp pre post (.int .i64 x) (r.map (Value.int .i64)) HHP.out HGD.out (by rw [HRL.out]; exact HNC.out) AA _ n HRL.out HAA.out (by intro u hu; simp at hu; obtain ⟨y, -, rfl⟩ := hu; rfl) rfl rfl ?_
 refine hK.out _ _ (past (by kernel_rfl)) (fun hC => ?_)
 clear hK K
 try simp only [Act.put, sG1, sG2, sG3, sG4, sG5, sG6]
 refine dQ 7 hC ?_; clear hC; intro hC
 refine wpAnyD_done (by kernel_rfl) ?_ _
 try simp only [Act.put, sG1, sG2, sG3, sG4, sG5, sG6]
 clear hHeld hC
 obtain ⟨z, hz⟩ := drop_last (Value.int .i64 x) (r.map (Value.int .i64))
 rw [HRL.out] at hz
 rw [hz]
 have HGE := Shut.mk (setRow_heap wD b _ (pre ++ (r.map (Value.int .i64) ++ [z]) ++ post).toArray _ (0, 0) HGD.out)
 have HOE := Shut.mk (HOD.out.setRow (g := b) (fun _ => rfl) (pre ++ (r.map (Value.int .i64) ++ [z]) ++ post).toArray)
 generalize hq : World.setRow wD b _ = wE at *
 clear hq hz
 have HPL := Shut.mk (show (pre ++ r.map (Value.int .i64)).length = o + n by rw [List.length_append, HHP.out, HRL.out])
 have HGF := Shut.mk (show wE.heap[b]? = some (.cells ((pre ++ r.map (Value.int .i64)) ++ [z] ++ post).toArray 3 (0, 0)) by rw [HGE.out]; simp)
 go_wp2_with (refine wpList_clear_one rfl (.tmp 31) 88 3 rfl i0 (.int .i64 0) Tryz.underlying88 hi0 hz0 rfl rfl b (o + n) (cp - n) rfl (pre ++ r.map (Value.int .i64)) post z HPL.out HGF.out ?_)
 go_ret
 refine ⟨.slice (some ⟨b, o, none⟩) n cp, rfl, ?_, HOE.out.setRow (g := b) (fun _ => rfl) _, rfl⟩
 rw [← HN.out]
 refine ⟨by simp, .inr ⟨b, o, cp, pre, Value.int .i64 0 :: post, by rw [HN.out], HHP.out, ?_, by rw [HN.out]; exact HNC.out, HCM.out, ?_⟩⟩
 ·have := setRow_heap wE b _ ((pre ++ r.map (Value.int .i64)) ++ [Value.int .i64 0] ++ post).toArray _ (0, 0) HGF.out
  simpa using this
 ·have := HRM.out
  rw [List.length_cons, HN.out]; omega
theorem size1N : (Tryz.prog.info? 88).map (·.size) = some 1 := by kernel_rfl
set_option maxRecDepth 100000 in
set_option maxHeartbeats 8000000 in
theorem join0_any (g : Nat) (tq : TypeId) (pre : List Value) (v0 v1 : Value) (l : List Int) (x : Int) (w : World) (hb : w.heap[g]? = some (.cells (pre ++ [v0, v1] ++ []).toArray tq (0, 0))) (hp : pre.length = 147) (hr : RowN w v0 l) (hn : ∀ k, v0.ownBlock = some k → k ≠ g) (hl : l.length ≤ 1000000) :
 Calls Tryz.prog 57 #[.pointer (some ⟨g, 0, none⟩), .int .i64 0, .int .i64 x] w fun e w' => e = .returned (.tuple #[]) ∧ ∃ v', w'.heap[g]? = some (.cells (pre ++ [v', v1] ++ []).toArray tq (0, 0)) ∧ RowN w' v' (l ++ [x]) ∧ Only (fun k => k = g ∨ v0.ownBlock = some k) w w' ∧ (∀ k, v'.ownBlock = some k → v0.ownBlock = some k ∨ w.heap.size ≤ k) := by
 have HP := Shut.mk hp
 have HNG := Shut.mk hn
 have HLL := Shut.mk hl
 obtain ⟨w5, hw5⟩ : ∃ w5, w5 = World.drew w := ⟨_, rfl⟩
 have HW5 := Shut.mk hw5
 have HD5 := Shut.mk (show Below w.heap.size w w5 by rw [hw5]; exact (Below.refl _ _).drew)
 have HB5 := Shut.mk ((HD5.out.block _ (lt_blk hb)).trans hb)
 have HR5 := Shut.mk (hr.only (S := fun _ => False) (Only.of_quiet HD5.out) (fun _ _ e => e))
 clear hw5 hb hp hr hn hl
 go_enter Tryz.func57, Tryz.ntmps57
 go_wp2_with (fail)
 refine wp_region_D (fun w' => Only (fun k => v0.ownBlock = some k) w5 w') 14 (by kernel_rfl) (show Only (fun k => v0.ownBlock = some k) w5 (World.drew w) by rw [HW5.out]; exact Only.refl _ _) (fun hHeld hC => ?_)
 rw [← HW5.out] at hHeld ⊢
 refine dP 0 hC hHeld ?_; clear hC; intro hC
 refine dP 1 hC hHeld ?_; clear hC; intro hC
 refine dP 2 hC hHeld ?_; clear hC; intro hC
 refine dP 3 hC hHeld ?_; clear hC; intro hC
 refine dP 4 hC hHeld ?_; clear hC; intro hC
 refine dP 5 hC hHeld ?_; clear hC; intro hC
 refine dP 6 hC hHeld ?_; clear hC; intro hC
 refine dT 7 hC hHeld (fun w hSw => (show w.cell? ⟨g, 147, none⟩ = some v0 from hSw.cell (mid_cell HB5.out HP.out (j := 0) rfl) (fun e => HNG.out _ e rfl))) ?_; clear hC; intro hC
 refine dP 8 hC hHeld ?_; clear hC; intro hC
 refine dP 11 hC hHeld ?_; clear hC; intro hC
 refine dP 12 hC hHeld ?_; clear hC; intro hC
 refine wpAnyD_one (i := 9) (by kernel_rfl) rfl hC (fun K hK => ?_)
 clear hC
 go_simp
 have HA6 := Shut.mk ((Below.refl w5.heap.size w5).alloc (Nat.le_refl _) (Obj.cells #[.int .i64 x] 3 (0, 0)))
 have HN6 := Shut.mk (block_range (MapKept.heap_alloc w5 (Obj.cells #[.int .i64 x] 3 (0, 0))).1)
 have HR6 := Shut.mk (HR5.out.only (S := fun _ => False) (Only.of_quiet HA6.out) (fun _ _ e => e))
 have HB6 := Shut.mk ((HA6.out.block _ (lt_blk HB5.out)).trans HB5.out)
 generalize World.alloc w5 _ = w6 at *
 have hHeld2 := hHeld.then_quiet HA6.out
 clear hHeld
 have hHeld := hHeld2
 clear hHeld2
 refine hK.out _ _ (fun _ => hHeld) (fun hC => ?_)
 clear hK K
 try simp only [Act.put, sG1, sG2, sG3, sG4, sG5, sG6]
 refine wpAnyD_one (i := 10) (by kernel_rfl) rfl hC (fun K hK => ?_)
 clear hC
 refine step_app_n rfl (.tmp 13) (.tmp 15) rfl v0 l rfl HR6.out x ⟨w5.heap.size, 0, none⟩ 1 rfl (fun j q hq => by rw [Addr.add_mid]; exact HN6.out j q hq) HLL.out ?_
 intro v' w7 hP hO hf
 have HR7 := Shut.mk hP
 have HF7 := Shut.mk hf
 have HB7 := Shut.mk (hO.at_ HB6.out (fun e => HNG.out _ e rfl))
 have hHeld2 := hHeld.trans hO (fun _ _ e => e)
 clear hP hO hf
 clear hHeld
 have hHeld := hHeld2
 clear hHeld2
 refine hK.out _ _ (fun _ => hHeld) (fun hC => ?_)
 clear hK K
 try simp only [Act.put, sG1, sG2, sG3, sG4, sG5, sG6]
 refine dP 13 hC hHeld ?_; clear hC; intro hC
 refine wpAnyD_one (i := 14) (by kernel_rfl) rfl hC (fun K hK => ?_)
 clear hC
 refine step_store_fld rfl 88 (.tmp 19) (.tmp 16) rfl g 147 0 v' rfl rfl HR7.out.one tq pre [v0, v1] [v', v1] [] HB7.out HP.out size1N (by show 0 < 2; omega) rfl ?_
 have HGV := Shut.mk (show ∀ k, v'.ownBlock = some k → k ≠ g from fun k hk => by
  rcases HF7.out k hk with h1 | h1
  ·exact HNG.out k h1
  ·have := lt_blk HB6.out; omega)
 have HR8 := Shut.mk (HR7.out.only (only_setRow w7 g (pre ++ [v', v1] ++ []).toArray) (fun k hk e => HGV.out k hk e))
 have HB8 := Shut.mk (setRow_heap w7 g _ (pre ++ [v', v1] ++ []).toArray _ (0, 0) HB7.out)
 have HO8 := Shut.mk (show Only (fun k => k = g ∨ v0.ownBlock = some k) w5 (w7.setRow g (pre ++ [v', v1] ++ []).toArray) from ((hHeld.mono (T := fun k => k = g ∨ v0.ownBlock = some k) fun _ _ e => .inr e).setRow (g := g) (fun _ => .inl rfl) _))
 generalize hq : World.setRow w7 g _ = w8 at *
 clear hq
 refine hK.out _ _ (past (by kernel_rfl)) (fun hC => ?_)
 clear hK K
 try simp only [Act.put, sG1, sG2, sG3, sG4, sG5, sG6]
 refine wpAnyD_done (by kernel_rfl) ?_ _
 try simp only [Act.put, sG1, sG2, sG3, sG4, sG5, sG6]
 clear hHeld hC
 go_end0
 refine ⟨rfl, v', HB8.out, HR8.out, (Only.of_quiet HD5.out).trans HO8.out fun _ _ e => e, fun k hk => ?_⟩
 rcases HF7.out k hk with h1 | h1
 ·exact .inl h1
 ·have := HD5.out.size
  have := HA6.out.size
  exact .inr (by omega)
set_option maxRecDepth 100000 in
set_option maxHeartbeats 8000000 in
theorem leave0_any (g : Nat) (tq : TypeId) (pre : List Value) (v0 v1 : Value) (x : Int) (r : List Int) (w : World) (hb : w.heap[g]? = some (.cells (pre ++ [v0, v1] ++ []).toArray tq (0, 0))) (hp : pre.length = 147) (hr : RowN w v0 (x :: r)) (hn : ∀ k, v0.ownBlock = some k → k ≠ g) (hl : r.length ≤ 1000000) :
 Calls Tryz.prog 67 #[.pointer (some ⟨g, 0, none⟩), .int .i64 0] w fun e w' => e = .returned (.int .i64 x) ∧ ∃ v', w'.heap[g]? = some (.cells (pre ++ [v', v1] ++ []).toArray tq (0, 0)) ∧ RowN w' v' r ∧ Only (fun k => k = g ∨ v0.ownBlock = some k) w w' ∧ v'.ownBlock = v0.ownBlock := by
 obtain ⟨b, of, cp, hv, hrg, hcp, -⟩ := RowAt.cells hr (by simp)
 obtain ⟨ln, hln⟩ : ∃ ln, (x :: r).length = ln := ⟨_, rfl⟩
 rw [hln] at hv hcp
 have hlp : 0 < ln := by rw [← hln]; simp
 have hx0 : w.cell? ⟨b, of, none⟩ = some (.int .i64 x) := by have := hrg 0 (.int .i64 x) rfl; simpa using this
 have hl0 := mid_cell hb hp (j := 0) (v := v0) rfl
 have hl1 : w.cell? ⟨g, 147, none⟩ = some v0 := hl0
 subst hv
 have hi0 : (0 : Int) < (ln : Int) := by omega
 have HP := Shut.mk hp
 have HNG := Shut.mk hn
 have HLL := Shut.mk hl
 obtain ⟨w5, hw5⟩ : ∃ w5, w5 = World.drew w := ⟨_, rfl⟩
 have HW5 := Shut.mk hw5
 have HD5 := Shut.mk (show Below w.heap.size w w5 by rw [hw5]; exact (Below.refl _ _).drew)
 have HB5 := Shut.mk ((HD5.out.block _ (lt_blk hb)).trans hb)
 have HR5 := Shut.mk (hr.only (S := fun _ => False) (Only.of_quiet HD5.out) (fun _ _ e => e))
 clear hw5 hb hp hr hn hl hrg hln hl0 hcp
 go_enter Tryz.func67, Tryz.ntmps67
 go_wp2_with (fail)
 clear hx0 hl1
 refine wp_region_D (fun w' => Only (fun k => (Value.slice (some ⟨b, of, none⟩) ln cp).ownBlock = some k) w5 w') 12 (by kernel_rfl) (show Only (fun k => (Value.slice (some ⟨b, of, none⟩) ln cp).ownBlock = some k) w5 (World.drew w) by rw [HW5.out]; exact Only.refl _ _) (fun hHeld hC => ?_)
 rw [← HW5.out] at hHeld ⊢
 refine dP 0 hC hHeld ?_; clear hC; intro hC
 refine dP 1 hC hHeld ?_; clear hC; intro hC
 refine dP 2 hC hHeld ?_; clear hC; intro hC
 refine dP 3 hC hHeld ?_; clear hC; intro hC
 refine dP 4 hC hHeld ?_; clear hC; intro hC
 refine dP 5 hC hHeld ?_; clear hC; intro hC
 refine dP 6 hC hHeld ?_; clear hC; intro hC
 refine dT 7 hC hHeld (fun w hSw => (show w.cell? ⟨g, 147, none⟩ = some (.slice (some ⟨b, of, none⟩) ln cp) from hSw.cell (mid_cell HB5.out HP.out (j := 0) rfl) (fun e => HNG.out _ e rfl))) ?_; clear hC; intro hC
 refine dP 9 hC hHeld ?_; clear hC; intro hC
 refine dP 10 hC hHeld ?_; clear hC; intro hC
 refine wpAnyD_one (i := 8) (by kernel_rfl) rfl hC (fun K hK => ?_)
 clear hC
 go_simp
 refine (delete_any _ x r _ HR5.out HLL.out).mono ?_
 rintro e' w7 ⟨v', rfl, hP, hO, hv⟩
 have HR7 := Shut.mk hP
 have HV7 := Shut.mk hv
 have HB7 := Shut.mk (hO.at_ HB5.out (fun e => HNG.out _ e rfl))
 have hHeld2 := hHeld.trans hO (fun _ _ e => e)
 clear hP hO hv
 clear hHeld
 have hHeld := hHeld2
 clear hHeld2
 refine hK.out _ _ (fun _ => hHeld) (fun hC => ?_)
 clear hK K
 try simp only [Act.put, sG1, sG2, sG3, sG4, sG5, sG6]
 refine dP 11 hC hHeld ?_; clear hC; intro hC
 refine wpAnyD_one (i := 12) (by kernel_rfl) rfl hC (fun K hK => ?_)
 clear hC
 refine step_store_fld rfl 88 (.tmp 25) (.tmp 22) rfl g 147 0 v' rfl rfl HR7.out.one tq pre [Value.slice (some ⟨b, of, none⟩) ln cp, v1] [v', v1] [] HB7.out HP.out size1N (by show 0 < 2; omega) rfl ?_
 have HR8 := Shut.mk (HR7.out.only (only_setRow w7 g (pre ++ [v', v1] ++ []).toArray) (fun k hk e => HNG.out k (HV7.out ▸ hk) e))
 have HB8 := Shut.mk (setRow_heap w7 g _ (pre ++ [v', v1] ++ []).toArray _ (0, 0) HB7.out)
 have HO8 := Shut.mk (show Only (fun k => k = g ∨ (Value.slice (some ⟨b, of, none⟩) ln cp).ownBlock = some k) w5 (w7.setRow g (pre ++ [v', v1] ++ []).toArray) from ((hHeld.mono (T := fun k => k = g ∨ (Value.slice (some ⟨b, of, none⟩) ln cp).ownBlock = some k) fun _ _ e => .inr e).setRow (g := g) (fun _ => .inl rfl) _))
 generalize hq : World.setRow w7 g _ = w8 at *
 clear hq
 refine hK.out _ _ (past (by kernel_rfl)) (fun hC => ?_)
 clear hK K
 try simp only [Act.put, sG1, sG2, sG3, sG4, sG5, sG6]
 refine wpAnyD_done (by kernel_rfl) ?_ _
 try simp only [Act.put, sG1, sG2, sG3, sG4, sG5, sG6]
 clear hHeld hC
 go_wp2_with (fail)
 go_ret
 exact ⟨rfl, v', HB8.out, HR8.out, (Only.of_quiet HD5.out).trans HO8.out fun _ _ e => e, HV7.out⟩
set_option maxRecDepth 100000 in
set_option maxHeartbeats 8000000 in
theorem join1_any (g : Nat) (tq : TypeId) (pre : List Value) (v0 v1 : Value) (l : List Int) (x : Int) (w : World) (hb : w.heap[g]? = some (.cells (pre ++ [v0, v1] ++ []).toArray tq (0, 0))) (hp : pre.length = 147) (hr : RowN w v1 l) (hn : ∀ k, v1.ownBlock = some k → k ≠ g) (hl : l.length ≤ 1000000) :
 Calls Tryz.prog 57 #[.pointer (some ⟨g, 0, none⟩), .int .i64 1, .int .i64 x] w fun e w' => e = .returned (.tuple #[]) ∧ ∃ v', w'.heap[g]? = some (.cells (pre ++ [v0, v'] ++ []).toArray tq (0, 0)) ∧ RowN w' v' (l ++ [x]) ∧ Only (fun k => k = g ∨ v1.ownBlock = some k) w w' ∧ (∀ k, v'.ownBlock = some k → v1.ownBlock = some k ∨ w.heap.size ≤ k) := by
 have HP := Shut.mk hp
 have HNG := Shut.mk hn
 have HLL := Shut.mk hl
 obtain ⟨w5, hw5⟩ : ∃ w5, w5 = World.drew w := ⟨_, rfl⟩
 have HW5 := Shut.mk hw5
 have HD5 := Shut.mk (show Below w.heap.size w w5 by rw [hw5]; exact (Below.refl _ _).drew)
 have HB5 := Shut.mk ((HD5.out.block _ (lt_blk hb)).trans hb)
 have HR5 := Shut.mk (hr.only (S := fun _ => False) (Only.of_quiet HD5.out) (fun _ _ e => e))
 clear hw5 hb hp hr hn hl
 go_enter Tryz.func57, Tryz.ntmps57
 go_wp2_with (fail)
 refine wp_region_D (fun w' => Only (fun k => v1.ownBlock = some k) w5 w') 14 (by kernel_rfl) (show Only (fun k => v1.ownBlock = some k) w5 (World.drew w) by rw [HW5.out]; exact Only.refl _ _) (fun hHeld hC => ?_)
 rw [← HW5.out] at hHeld ⊢
 refine dP 0 hC hHeld ?_; clear hC; intro hC
 refine dP 1 hC hHeld ?_; clear hC; intro hC
 refine dP 2 hC hHeld ?_; clear hC; intro hC
 refine dP 3 hC hHeld ?_; clear hC; intro hC
 refine dP 4 hC hHeld ?_; clear hC; intro hC
 refine dP 5 hC hHeld ?_; clear hC; intro hC
 refine dP 6 hC hHeld ?_; clear hC; intro hC
 refine dT 7 hC hHeld (fun w hSw => (show w.cell? ⟨g, 148, none⟩ = some v1 from hSw.cell (mid_cell HB5.out HP.out (j := 1) rfl) (fun e => HNG.out _ e rfl))) ?_; clear hC; intro hC
 refine dP 8 hC hHeld ?_; clear hC; intro hC
 refine dP 11 hC hHeld ?_; clear hC; intro hC
 refine dP 12 hC hHeld ?_; clear hC; intro hC
 refine wpAnyD_one (i := 9) (by kernel_rfl) rfl hC (fun K hK => ?_)
 clear hC
 go_simp
 have HA6 := Shut.mk ((Below.refl w5.heap.size w5).alloc (Nat.le_refl _) (Obj.cells #[.int .i64 x] 3 (0, 0)))
 have HN6 := Shut.mk (block_range (MapKept.heap_alloc w5 (Obj.cells #[.int .i64 x] 3 (0, 0))).1)
 have HR6 := Shut.mk (HR5.out.only (S := fun _ => False) (Only.of_quiet HA6.out) (fun _ _ e => e))
 have HB6 := Shut.mk ((HA6.out.block _ (lt_blk HB5.out)).trans HB5.out)
 generalize World.alloc w5 _ = w6 at *
 have hHeld2 := hHeld.then_quiet HA6.out
 clear hHeld
 have hHeld := hHeld2
 clear hHeld2
 refine hK.out _ _ (fun _ => hHeld) (fun hC => ?_)
 clear hK K
 try simp only [Act.put, sG1, sG2, sG3, sG4, sG5, sG6]
 refine wpAnyD_one (i := 10) (by kernel_rfl) rfl hC (fun K hK => ?_)
 clear hC
 refine step_app_n rfl (.tmp 13) (.tmp 15) rfl v1 l rfl HR6.out x ⟨w5.heap.size, 0, none⟩ 1 rfl (fun j q hq => by rw [Addr.add_mid]; exact HN6.out j q hq) HLL.out ?_
 intro v' w7 hP hO hf
 have HR7 := Shut.mk hP
 have HF7 := Shut.mk hf
 have HB7 := Shut.mk (hO.at_ HB6.out (fun e => HNG.out _ e rfl))
 have hHeld2 := hHeld.trans hO (fun _ _ e => e)
 clear hP hO hf
 clear hHeld
 have hHeld := hHeld2
 clear hHeld2
 refine hK.out _ _ (fun _ => hHeld) (fun hC => ?_)
 clear hK K
 try simp only [Act.put, sG1, sG2, sG3, sG4, sG5, sG6]
 refine dP 13 hC hHeld ?_; clear hC; intro hC
 refine wpAnyD_one (i := 14) (by kernel_rfl) rfl hC (fun K hK => ?_)
 clear hC
 refine step_store_fld rfl 88 (.tmp 19) (.tmp 16) rfl g 147 1 v' rfl rfl HR7.out.one tq pre [v0, v1] [v0, v'] [] HB7.out HP.out size1N (by show 1 < 2; omega) rfl ?_
 have HGV := Shut.mk (show ∀ k, v'.ownBlock = some k → k ≠ g from fun k hk => by
  rcases HF7.out k hk with h1 | h1
  ·exact HNG.out k h1
  ·have := lt_blk HB6.out; omega)
 have HR8 := Shut.mk (HR7.out.only (only_setRow w7 g (pre ++ [v0, v'] ++ []).toArray) (fun k hk e => HGV.out k hk e))
 have HB8 := Shut.mk (setRow_heap w7 g _ (pre ++ [v0, v'] ++ []).toArray _ (0, 0) HB7.out)
 have HO8 := Shut.mk (show Only (fun k => k = g ∨ v1.ownBlock = some k) w5 (w7.setRow g (pre ++ [v0, v'] ++ []).toArray) from ((hHeld.mono (T := fun k => k = g ∨ v1.ownBlock = some k) fun _ _ e => .inr e).setRow (g := g) (fun _ => .inl rfl) _))
 generalize hq : World.setRow w7 g _ = w8 at *
 clear hq
 refine hK.out _ _ (past (by kernel_rfl)) (fun hC => ?_)
 clear hK K
 try simp only [Act.put, sG1, sG2, sG3, sG4, sG5, sG6]
 refine wpAnyD_done (by kernel_rfl) ?_ _
 try simp only [Act.put, sG1, sG2, sG3, sG4, sG5, sG6]
 clear hHeld hC
 go_end0
 refine ⟨rfl, v', HB8.out, HR8.out, (Only.of_quiet HD5.out).trans HO8.out fun _ _ e => e, fun k hk => ?_⟩
 rcases HF7.out k hk with h1 | h1
 ·exact .inl h1
 ·have := HD5.out.size
  have := HA6.out.size
  exact .inr (by omega)
set_option maxRecDepth 100000 in
set_option maxHeartbeats 8000000 in
theorem leave1_any (g : Nat) (tq : TypeId) (pre : List Value) (v0 v1 : Value) (x : Int) (r : List Int) (w : World) (hb : w.heap[g]? = some (.cells (pre ++ [v0, v1] ++ []).toArray tq (0, 0))) (hp : pre.length = 147) (hr : RowN w v1 (x :: r)) (hn : ∀ k, v1.ownBlock = some k → k ≠ g) (hl : r.length ≤ 1000000) :
 Calls Tryz.prog 67 #[.pointer (some ⟨g, 0, none⟩), .int .i64 1] w fun e w' => e = .returned (.int .i64 x) ∧ ∃ v', w'.heap[g]? = some (.cells (pre ++ [v0, v'] ++ []).toArray tq (0, 0)) ∧ RowN w' v' r ∧ Only (fun k => k = g ∨ v1.ownBlock = some k) w w' ∧ v'.ownBlock = v1.ownBlock := by
 obtain ⟨b, of, cp, hv, hrg, hcp, -⟩ := RowAt.cells hr (by simp)
 obtain ⟨ln, hln⟩ : ∃ ln, (x :: r).length = ln := ⟨_, rfl⟩
 rw [hln] at hv hcp
 have hlp : 0 < ln := by rw [← hln]; simp
 have hx0 : w.cell? ⟨b, of, none⟩ = some (.int .i64 x) := by have := hrg 0 (.int .i64 x) rfl; simpa using this
 have hl0 := mid_cell hb hp (j := 1) (v := v1) rfl
 have hl1 : w.cell? ⟨g, 148, none⟩ = some v1 := hl0
 subst hv
 have hi0 : (0 : Int) < (ln : Int) := by omega
 have HP := Shut.mk hp
 have HNG := Shut.mk hn
 have HLL := Shut.mk hl
 obtain ⟨w5, hw5⟩ : ∃ w5, w5 = World.drew w := ⟨_, rfl⟩
 have HW5 := Shut.mk hw5
 have HD5 := Shut.mk (show Below w.heap.size w w5 by rw [hw5]; exact (Below.refl _ _).drew)
 have HB5 := Shut.mk ((HD5.out.block _ (lt_blk hb)).trans hb)
 have HR5 := Shut.mk (hr.only (S := fun _ => False) (Only.of_quiet HD5.out) (fun _ _ e => e))
 clear hw5 hb hp hr hn hl hrg hln hl0 hcp
 go_enter Tryz.func67, Tryz.ntmps67
 go_wp2_with (fail)
 clear hx0 hl1
 refine wp_region_D (fun w' => Only (fun k => (Value.slice (some ⟨b, of, none⟩) ln cp).ownBlock = some k) w5 w') 12 (by kernel_rfl) (show Only (fun k => (Value.slice (some ⟨b, of, none⟩) ln cp).ownBlock = some k) w5 (World.drew w) by rw [HW5.out]; exact Only.refl _ _) (fun hHeld hC => ?_)
 rw [← HW5.out] at hHeld ⊢
 refine dP 0 hC hHeld ?_; clear hC; intro hC
 refine dP 1 hC hHeld ?_; clear hC; intro hC
 refine dP 2 hC hHeld ?_; clear hC; intro hC
 refine dP 3 hC hHeld ?_; clear hC; intro hC
 refine dP 4 hC hHeld ?_; clear hC; intro hC
 refine dP 5 hC hHeld ?_; clear hC; intro hC
 refine dP 6 hC hHeld ?_; clear hC; intro hC
 refine dT 7 hC hHeld (fun w hSw => (show w.cell? ⟨g, 148, none⟩ = some (.slice (some ⟨b, of, none⟩) ln cp) from hSw.cell (mid_cell HB5.out HP.out (j := 1) rfl) (fun e => HNG.out _ e rfl))) ?_; clear hC; intro hC
 refine dP 9 hC hHeld ?_; clear hC; intro hC
 refine dP 10 hC hHeld ?_; clear hC; intro hC
 refine wpAnyD_one (i := 8) (by kernel_rfl) rfl hC (fun K hK => ?_)
 clear hC
 go_simp
 refine (delete_any _ x r _ HR5.out HLL.out).mono ?_
 rintro e' w7 ⟨v', rfl, hP, hO, hv⟩
 have HR7 := Shut.mk hP
 have HV7 := Shut.mk hv
 have HB7 := Shut.mk (hO.at_ HB5.out (fun e => HNG.out _ e rfl))
 have hHeld2 := hHeld.trans hO (fun _ _ e => e)
 clear hP hO hv
 clear hHeld
 have hHeld := hHeld2
 clear hHeld2
 refine hK.out _ _ (fun _ => hHeld) (fun hC => ?_)
 clear hK K
 try simp only [Act.put, sG1, sG2, sG3, sG4, sG5, sG6]
 refine dP 11 hC hHeld ?_; clear hC; intro hC
 refine wpAnyD_one (i := 12) (by kernel_rfl) rfl hC (fun K hK => ?_)
 clear hC
 refine step_store_fld rfl 88 (.tmp 25) (.tmp 22) rfl g 147 1 v' rfl rfl HR7.out.one tq pre [v0, Value.slice (some ⟨b, of, none⟩) ln cp] [v0, v'] [] HB7.out HP.out size1N (by show 1 < 2; omega) rfl ?_
 have HR8 := Shut.mk (HR7.out.only (only_setRow w7 g (pre ++ [v0, v'] ++ []).toArray) (fun k hk e => HNG.out k (HV7.out ▸ hk) e))
 have HB8 := Shut.mk (setRow_heap w7 g _ (pre ++ [v0, v'] ++ []).toArray _ (0, 0) HB7.out)
 have HO8 := Shut.mk (show Only (fun k => k = g ∨ (Value.slice (some ⟨b, of, none⟩) ln cp).ownBlock = some k) w5 (w7.setRow g (pre ++ [v0, v'] ++ []).toArray) from ((hHeld.mono (T := fun k => k = g ∨ (Value.slice (some ⟨b, of, none⟩) ln cp).ownBlock = some k) fun _ _ e => .inr e).setRow (g := g) (fun _ => .inl rfl) _))
 generalize hq : World.setRow w7 g _ = w8 at *
 clear hq
 refine hK.out _ _ (past (by kernel_rfl)) (fun hC => ?_)
 clear hK K
 try simp only [Act.put, sG1, sG2, sG3, sG4, sG5, sG6]
 refine wpAnyD_done (by kernel_rfl) ?_ _
 try simp only [Act.put, sG1, sG2, sG3, sG4, sG5, sG6]
 clear hHeld hC
 go_wp2_with (fail)
 go_ret
 exact ⟨rfl, v', HB8.out, HR8.out, (Only.of_quiet HD5.out).trans HO8.out fun _ _ e => e, HV7.out⟩
end Go.Proofs.YtndkmgcmegcieaaGreatDoor
