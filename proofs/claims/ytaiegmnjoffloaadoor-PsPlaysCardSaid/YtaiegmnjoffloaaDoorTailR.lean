/-
  A ROW THAT BEGINS ANYWHERE IN ITS BLOCK ('s = s[1:]'): what it holds; append to it; a part of a block that is known whole stored anew. No program is named.
-/
import Derived.Test.YtaiegmnjoffloaaDoorRowK
import Derived.Test.YtaiegmnjoffloaaDoorShutA
import Derived.Deep.AppendLies
import Derived.Laws.CopyRow
namespace Go.Proofs.YtaiegmnjoffloaaDoor
open Go.ChangeShapes Go.WideShapes Go.ChangeAt Go.RowKit Go.Deep
set_option linter.unusedVariables false
set_option linter.unusedSimpArgs false

/-! ### a part of a block stored anew -/
theorem run_store_part {P : Program} (w : World) (g o : Nat) (t ty : TypeId) (pre old new post : List Value) (v : Value) (hg : w.heap[g]? = some (.cells (pre ++ old ++ post).toArray t (0, 0))) (ho : pre.length = o) (hn : new.length = old.length)
    (hv : v.cells = new.toArray) (hi : (P.info? ty).map (·.size) = some new.length) (h1 : ∀ u ∈ new, u.oneCell' = true) :
    (Instr.storeAt ty (.pointer (some ⟨g, o, none⟩)) v).run P w = .ok () (w.setRow g (pre ++ new ++ post).toArray) := by
  subst ho
  have hst := run_storeCells_at P g pre.length t new 0 _ w hg (by simp; omega) h1
  have e : (pre ++ old ++ post).toArray.toList.take (pre.length + 0) ++ new ++ (pre ++ old ++ post).toArray.toList.drop (pre.length + 0 + new.length) = pre ++ new ++ post := by
    have e1 : (pre ++ old ++ post).take (pre.length + 0) = pre := by rw [Nat.add_zero, List.append_assoc, List.take_left]
    have e2 : (pre ++ old ++ post).drop (pre.length + 0 + new.length) = post := by
      rw [hn, Nat.add_zero, show pre.length + old.length = (pre ++ old).length by simp, List.drop_left]
    simp only [List.toList_toArray, e1, e2]
  rw [e] at hst
  cases hq : P.info? ty with
  | none => simp [hq] at hi
  | some inf =>
    have hs : inf.size = new.length := by simpa [hq] using hi
    simp [Instr.storeAt, Instr.sureAddr, storeVar, sizeOf, typeInfo, hq, hv, hs, hst, Result.andThen]
theorem wp_store_part {P : Program} {o : Oper} {a : Act} {w : World} {K : Act → World → Prop} {Q : Exit → Act → World → Prop} (ty : TypeId) (x y : Operand) (ho : o.op = .store ty x y)
    (g i : Nat) (v : Value) (hx : a.eval x = .pointer (some ⟨g, i, none⟩)) (hy : a.eval y = v) (t : TypeId) (pre old new post : List Value)
    (hg : w.heap[g]? = some (.cells (pre ++ old ++ post).toArray t (0, 0))) (hp : pre.length = i) (hn : new.length = old.length)
    (hv : v.cells = new.toArray) (hi : (P.info? ty).map (·.size) = some new.length) (h1 : ∀ u ∈ new, u.oneCell' = true)
    (h : K (a.put o.dst undef) (w.setRow g (pre ++ new ++ post).toArray)) : o.wp P a w K Q := by
  unfold Oper.wp execOp
  simp only [ho, hx, hy, Sem.run_bind, Sem.run_pure, Result.andThen_ok, run_store_part w g i t ty pre old new post v hg hp hn hv hi h1]
  exact h
theorem wpList_store_part {P : Program} {ops : Array Oper} {rest : List Oper} {o : Oper} {a : Act} {w : World} {Q : Exit → Act → World → Prop} (hgd : Region.wanted o (yielded ops a.tmps) = true) (ty : TypeId) (x y : Operand) (ho : o.op = .store ty x y)
    (g i : Nat) (v : Value) (hx : a.eval x = .pointer (some ⟨g, i, none⟩)) (hy : a.eval y = v) (t : TypeId) (pre old new post : List Value)
    (hg : w.heap[g]? = some (.cells (pre ++ old ++ post).toArray t (0, 0))) (hp : pre.length = i) (hn : new.length = old.length)
    (hv : v.cells = new.toArray) (hi : (P.info? ty).map (·.size) = some new.length) (h1 : ∀ u ∈ new, u.oneCell' = true)
    (h : wpList P ops Q rest (a.put o.dst undef) (w.setRow g (pre ++ new ++ post).toArray)) : wpList P ops Q (o :: rest) a w :=
  wpList_step fun _ hK => by
    rw [if_pos hgd]
    exact wp_store_part ty x y ho g i v hx hy t pre old new post hg hp hn hv hi h1 (hK _ _ h)
theorem step_store_part {P : Program} {ops : Array Oper} {o : Oper} {a : Act} {w : World} {K : Act → World → Prop} {Q : Exit → Act → World → Prop} {E : Prop} (hgd : Region.wanted o (yielded ops a.tmps) = true) (ty : TypeId) (x y : Operand) (ho : o.op = .store ty x y)
    (g i : Nat) (v : Value) (hx : a.eval x = .pointer (some ⟨g, i, none⟩)) (hy : a.eval y = v) (t : TypeId) (pre old new post : List Value)
    (hg : w.heap[g]? = some (.cells (pre ++ old ++ post).toArray t (0, 0))) (hp : pre.length = i) (hn : new.length = old.length)
    (hv : v.cells = new.toArray) (hi : (P.info? ty).map (·.size) = some new.length) (h1 : ∀ u ∈ new, u.oneCell' = true)
    (h : K (a.put o.dst undef) (w.setRow g (pre ++ new ++ post).toArray)) : if Region.wanted o (yielded ops a.tmps) = true then Oper.wp P o a w K Q else E := by
  rw [if_pos hgd]
  exact wp_store_part ty x y ho g i v hx hy t pre old new post hg hp hn hv hi h1 h

/-! ### a row that begins anywhere -/
def RowAt (w : World) (e : TypeId) (size : Nat) (v : Value) (n : Nat) (xs : List Value) : Prop :=
  xs.length = n * size ∧ ((v = .slice none 0 0 ∧ n = 0) ∨
    ∃ g o cap pre post, v = .slice (some ⟨g, o, none⟩) n cap ∧ pre.length = o ∧ w.heap[g]? = some (.cells (pre ++ xs ++ post).toArray e (0, 0)) ∧ n ≤ cap ∧ cap ≤ maxLen ∧ cap * size ≤ n * size + post.length)
section
variable {w w' : World} {e : TypeId} {size n : Nat} {v : Value} {xs : List Value} {S : Nat → Prop}
theorem RowAt.nil (w : World) (e : TypeId) (size : Nat) : RowAt w e size (.slice none 0 0) 0 [] := ⟨by simp, .inl ⟨rfl, rfl⟩⟩
theorem RowAt.only (h : RowAt w e size v n xs) (ho : Only S w w') (hn : ∀ g, v.ownBlock = some g → ¬ S g) : RowAt w' e size v n xs := by
  refine ⟨h.1, ?_⟩
  rcases h.2 with h0 | ⟨g, o, cap, pre, post, hv, hp, hg, rest⟩
  · exact .inl h0
  · exact .inr ⟨g, o, cap, pre, post, hv, hp, ho.at_ hg (hn g (by rw [hv]; rfl)), rest⟩
theorem RowAt.lt (h : RowAt w e size v n xs) : ∀ g, v.ownBlock = some g → g < w.heap.size := fun g hg => by
  rcases h.2 with ⟨rfl, -⟩ | ⟨g', o, cap, pre, post, rfl, hp, hg', rest⟩
  · cases hg
  · have : g' = g := by simpa [Value.ownBlock] using hg
    exact this ▸ lt_blk hg'
/-- where its cells lie. -/
theorem RowAt.cells (h : RowAt w e size v n xs) (hn : 0 < n) : ∃ g o cap, v = .slice (some ⟨g, o, none⟩) n cap ∧ w.rangeAt g o xs ∧ n ≤ cap ∧ cap ≤ maxLen := by
  rcases h.2 with ⟨-, h0⟩ | ⟨g, o, cap, pre, post, rfl, hp, hg, hc, hm, -⟩
  · omega
  · refine ⟨g, o, cap, rfl, fun j u hu => ?_, hc, hm⟩
    have hj : j < xs.length := (List.getElem?_eq_some_iff.1 hu).1
    rw [cell_of_row w g (o + j) _ e (0, 0) hg]
    simp only [List.getElem?_toArray, ← hp]
    rw [List.append_assoc, List.getElem?_append_right (by omega), show pre.length + j - pre.length = j by omega, List.getElem?_append_left hj]
    exact hu
theorem RowAt.form (h : RowAt w e size v n xs) : ∃ A cap, v = .slice A n cap ∧ n ≤ cap ∧ (A = none → n = 0 ∧ cap = 0) := by
  rcases h.2 with ⟨rfl, rfl⟩ | ⟨g, o, cap, pre, post, rfl, hp, hg, hc, hm, -⟩
  · exact ⟨none, 0, rfl, Nat.le_refl _, fun _ => ⟨rfl, rfl⟩⟩
  · exact ⟨some ⟨g, o, none⟩, cap, rfl, hc, fun h => by cases h⟩
/-- it without its first: what the walk makes of 's[1:]'. -/
theorem RowAt.tail {g o cap : Nat} (h : RowAt w e size (.slice (some ⟨g, o, none⟩) (n + 1) cap) (n + 1) xs) : RowAt w e size (.slice (some (if cap = 1 then ⟨g, o, none⟩ else ⟨g, o + size, none⟩)) n (cap - 1)) n (xs.drop size) := by
  obtain ⟨hl, h2⟩ := h
  rcases h2 with ⟨h0, -⟩ | ⟨g', o', cap', pre, post, hv, hp, hg, hc, hm, hr⟩
  · cases h0
  · simp only [Value.slice.injEq, Option.some.injEq, Addr.mk.injEq, true_and, and_true] at hv
    obtain ⟨⟨rfl, rfl⟩, rfl⟩ := hv
    have hln : (xs.drop size).length = n * size := by rw [List.length_drop, hl, Nat.succ_mul]; omega
    refine ⟨hln, .inr ?_⟩
    have hx : xs.take size ++ xs.drop size = xs := List.take_append_drop _ _
    have htl : (xs.take size).length = size := by rw [List.length_take, hl, Nat.succ_mul]; omega
    by_cases h1 : cap = 1
    · subst h1
      rw [if_pos rfl]
      have hn0 : n = 0 := by omega
      subst hn0
      have hd : xs.drop size = [] := List.eq_nil_of_length_eq_zero (by rw [hln]; omega)
      refine ⟨g, o, 0, pre, xs ++ post, by simp, hp, ?_, Nat.le_refl _, by omega, by omega⟩
      rw [hd, List.append_nil, ← List.append_assoc]; exact hg
    · rw [if_neg h1]
      refine ⟨g, o + size, cap - 1, pre ++ xs.take size, post, rfl, by rw [List.length_append, hp, htl], ?_, by omega, by omega, ?_⟩
      · rw [List.append_assoc pre, hx]; exact hg
      · obtain ⟨c, rfl⟩ : ∃ c, cap = c + 1 := ⟨cap - 1, by omega⟩
        rw [Nat.succ_mul, Nat.succ_mul] at hr
        rw [Nat.add_sub_cancel]
        omega
theorem RowAt.of_owns {base : Nat} (h : w.ownsRow base e size v n xs) : RowAt w e size v n xs := by
  refine ⟨h.1, ?_⟩
  rcases h.2 with h0 | ⟨g, cap, cur, hv, hb, hg, hc, hm, hs, ht⟩
  · exact .inl h0
  · refine .inr ⟨g, 0, cap, [], cur.toList.drop (n * size), hv, rfl, ?_, hc, hm, ?_⟩
    · rw [List.nil_append, ← ht, List.take_append_drop]; simpa using hg
    · have : n * size ≤ cap * size := Nat.mul_le_mul_right _ hc
      rw [List.length_drop, Array.length_toList, hs]; omega
end
/-- append to it. -/
theorem run_append_at {P : Program} (w : World) (t ty e : TypeId) (i : TypeInfo) (z : Value) (size bytes : Nat) (ht : P.underlying t = some (.slice e)) (hi : P.info? e = some i) (hz : i.zero = some z)
    (hsize : i.size = size) (hby : i.bytes = bytes) (hzs : z.cells.size = size)
    (v : Value) (n : Nat) (xs : List Value) (hown : RowAt w e size v n xs)
    (ad : Addr) (m c : Nat) (news : List Value) (hl : news.length = m * size) (hnews : ∀ j u, news[j]? = some u → w.cell? (ad.add j) = some u) (h1 : ∀ u ∈ news, u.oneCell' = true)
    (hm : 0 < m) (h63 : n + m ≤ maxLen) (hbytes : (n + m) * bytes ≤ 140737488355328) :
    ∃ g o cap w', (Builtin.append_ #[t, t] ty #[v, .slice (some ad) m c]).run P w = .ok (.slice (some ⟨g, o, none⟩) (n + m) cap) w' ∧
      RowAt w' e size (.slice (some ⟨g, o, none⟩) (n + m) cap) (n + m) (xs ++ news) ∧ w.grownBy w' v.ownBlock ∧ (v.ownBlock = some g ∨ g = w.heap.size) := by
  subst hsize
  subst hby
  have hsmall : n + m ≤ 9223372036854775807 := by simp only [maxLen] at h63; omega
  have hlen : (xs ++ news).length = (n + m) * i.size := by rw [List.length_append, hown.1, hl, Nat.add_mul]
  have grown : ∀ (old : Nat), old < n + m → ∀ (row : Option Nat),
      RowAt (w.drew.alloc (.cells (xs.toArray ++ news.toArray ++ Builtin.zeroCells z.cells (grownCap w (n + m) old e - (n + m))) e)) e i.size
        (.slice (some ⟨w.heap.size, 0, none⟩) (n + m) (grownCap w (n + m) old e)) (n + m) (xs ++ news) ∧
      w.grownBy (w.drew.alloc (.cells (xs.toArray ++ news.toArray ++ Builtin.zeroCells z.cells (grownCap w (n + m) old e - (n + m))) e)) row := by
    intro old ho row
    have hge := grownCap_ge w (n + m) old e
    have hcm : grownCap w (n + m) old e ≤ maxLen := grownCap_le_maxLen w (n + m) old e h63
    refine ⟨⟨hlen, .inr ⟨w.heap.size, 0, _, [], (Builtin.zeroCells z.cells (grownCap w (n + m) old e - (n + m))).toList, rfl, rfl, ?_, hge, hcm, ?_⟩⟩, ⟨rfl, rfl, rfl, by simp, fun k hk _ => heap_alloc_old w.drew _ hk⟩⟩
    · have := heap_alloc_new w.drew (.cells (xs.toArray ++ news.toArray ++ Builtin.zeroCells z.cells (grownCap w (n + m) old e - (n + m))) e)
      have e1 : ([] ++ (xs ++ news) ++ (Builtin.zeroCells z.cells (grownCap w (n + m) old e - (n + m))).toList).toArray = xs.toArray ++ news.toArray ++ Builtin.zeroCells z.cells (grownCap w (n + m) old e - (n + m)) := by
        apply Array.ext'
        simp
      rw [e1]; exact this
    · rw [Array.length_toList, size_zeroCells, hzs, ← Nat.add_mul]
      exact Nat.mul_le_mul_right _ (by omega)
  rcases hown.2 with ⟨rfl, rfl⟩ | ⟨g, o, cap, pre, post, rfl, hp, hg, hnc, hcm, hr⟩
  · have hx : xs = [] := List.eq_nil_of_length_eq_zero (by simpa using hown.1)
    subst hx
    have hr := run_append_nil (P := P) w t ty e i z ht hi hz ad m c news hl hnews (by omega) (by omega) (by have hb := hbytes; simp only [Nat.zero_add] at hb; omega)
    have hgr := grown 0 (by omega) (Value.ownBlock (.slice none 0 0))
    simp only [Nat.zero_add, List.nil_append, Array.empty_append] at hgr ⊢
    exact ⟨_, _, _, _, hr, hgr.1, hgr.2, .inr rfl⟩
  · have hcells : ∀ j u, xs[j]? = some u → w.cell? ((⟨g, o, none⟩ : Addr).add j) = some u := fun j u hu => by
      have hj : j < xs.length := (List.getElem?_eq_some_iff.1 hu).1
      rw [Addr.add_mid, cell_of_row w g (o + j) _ e (0, 0) hg]
      simp only [List.getElem?_toArray, ← hp]
      rw [List.append_assoc, List.getElem?_append_right (by omega), show pre.length + j - pre.length = j by omega, List.getElem?_append_left hj]
      exact hu
    by_cases hroom : n + m ≤ cap
    · have hfit : news.length ≤ post.length := by
        have : (n + m) * i.size ≤ cap * i.size := Nat.mul_le_mul_right _ hroom
        rw [Nat.add_mul] at this
        rw [hl]; omega
      have hf := run_firstCells_some (P := P) w i.size m ad m c news hl hnews
      have hst := run_storeCells_at P g (o + n * i.size) e news 0 _ w hg (by simp only [List.size_toArray, List.length_append, hown.1]; omega) h1
      have e1 : (pre ++ xs ++ post).toArray.toList.take (o + n * i.size + 0) ++ news ++ (pre ++ xs ++ post).toArray.toList.drop (o + n * i.size + 0 + news.length) = pre ++ (xs ++ news) ++ post.drop news.length := by
        have hpx : o + n * i.size = (pre ++ xs).length := by rw [List.length_append, hp, hown.1]
        simp only [List.toList_toArray, Nat.add_zero, hpx]
        rw [List.take_left, List.drop_append]
        simp
      rw [e1] at hst
      have hrun : (Builtin.append_ #[t, t] ty #[.slice (some ⟨g, o, none⟩) n cap, .slice (some ad) m c]).run P w = .ok (.slice (some ⟨g, o, none⟩) (n + m) cap) (w.setRow g (pre ++ (xs ++ news) ++ post.drop news.length).toArray) := by
        simp [Builtin.append_, run_underlying ht, sizeOf, typeInfo, hi, Builtin.lenOf, hroom, hf, Addr.add_lit]
        simp at hst
        simp [hst]
      refine ⟨g, o, cap, _, hrun, ⟨hlen, .inr ⟨g, o, cap, pre, post.drop news.length, rfl, hp, setRow_heap w g _ _ e _ hg, hroom, hcm, ?_⟩⟩, ⟨rfl, rfl, rfl, by simp, fun k _ hk => setRow_other w g k _ (fun e => hk (by simp [Value.ownBlock, e]))⟩, .inl rfl⟩
      rw [List.length_drop, hl, Nat.add_mul]
      rw [hl] at hfit
      omega
    · have hr := run_append_grow (P := P) w t ty e i z ht hi hz ⟨g, o, none⟩ n cap xs hown.1 hcells ad m c news hl hnews (by omega) (by omega) (growslice_fits (by omega) hbytes)
      have hgr := grown cap (by omega) (Value.ownBlock (.slice (some ⟨g, o, none⟩) n cap))
      exact ⟨_, _, _, _, hr, hgr.1, hgr.2, .inr rfl⟩
theorem step_append_at {P : Program} {ops : Array Oper} {o : Oper} {a : Act} {w : World} {K : Act → World → Prop} {Q : Exit → Act → World → Prop} {E : Prop} (hgd : o.guard = none) (s x : Operand) (t : TypeId)
    (ho : o.op = .call { callee := .builtin .append, args := #[s, x], argTypes := #[t, t] })
    (e : TypeId) (i : TypeInfo) (z : Value) (size bytes : Nat) (ht : P.underlying t = some (.slice e)) (hi : P.info? e = some i) (hz : i.zero = some z)
    (hsize : i.size = size) (hby : i.bytes = bytes) (hzs : z.cells.size = size)
    (v : Value) (n : Nat) (xs : List Value) (hs : a.eval s = v) (hown : RowAt w e size v n xs)
    (ad : Addr) (m c : Nat) (news : List Value) (hx : a.eval x = .slice (some ad) m c) (hl : news.length = m * size) (hnews : ∀ j u, news[j]? = some u → w.cell? (ad.add j) = some u) (h1 : ∀ u ∈ news, u.oneCell' = true)
    (hm : 0 < m) (h63 : n + m ≤ maxLen) (hbytes : (n + m) * bytes ≤ 140737488355328)
    (h : ∀ g of cap w', RowAt w' e size (.slice (some ⟨g, of, none⟩) (n + m) cap) (n + m) (xs ++ news) → w.grownBy w' v.ownBlock → (v.ownBlock = some g ∨ g = w.heap.size) → K (a.put o.dst (.slice (some ⟨g, of, none⟩) (n + m) cap)) w') :
    if Region.wanted o (yielded ops a.tmps) = true then Oper.wp P o a w K Q else E := by
  have hw : Region.wanted o (yielded ops a.tmps) = true := by simp [Region.wanted, hgd]
  rw [if_pos hw]
  obtain ⟨g, of, cap, w', hr, h2, h3, h4⟩ := run_append_at (P := P) w t o.type e i z size bytes ht hi hz hsize hby hzs v n xs hown ad m c news hl hnews h1 hm h63 hbytes
  unfold Oper.wp execOp
  simp only [ho, resolve, invoke, builtin, Sem.run_bind, Sem.run_pure, Result.andThen_ok, List.map_toArray, List.map_cons, List.map_nil, hs, hx, hr]
  exact h g of cap w' h2 h3 h4
end Go.Proofs.YtaiegmnjoffloaaDoor
