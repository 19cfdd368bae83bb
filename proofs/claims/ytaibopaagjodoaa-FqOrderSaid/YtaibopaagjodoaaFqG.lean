/-
  ROWS of packets and of items that begin anywhere: what they keep, their first, their rest, append of one; a flow of fq's queue inside its block: its cells, a field stored anew.
-/
import Derived.Test.YtaibopaagjodoaaFqF
namespace Go.Proofs.Ytaibopaagjodoaa
open Go.ChangeShapes Go.WideShapes Go.ChangeAt Go.RowKit Go.Deep
set_option linter.unusedVariables false
set_option linter.unusedSimpArgs false

/-- for regions whose operation d has come up. -/
theorem only_setRow (w : World) (g : Nat) (cs : Array Value) : Only (· = g) w (w.setRow g cs) := (Only.refl (· = g) w).setRow (g := g) (fun _ => rfl) cs
theorem past {b : Bool} {p : Prop} (h : b = true) : b = false → p := fun h2 => by rw [h] at h2; cases h2
/-! ### one cell in the middle of a block -/
theorem set_mid {pre mid mid' post : List Value} {o j : Nat} {v : Value} (ho : pre.length = o) (hj : j < mid.length) (hm : mid.set j v = mid') :
    (pre ++ mid ++ post).toArray.setIfInBounds (o + j) v = (pre ++ mid' ++ post).toArray := by
  subst ho
  subst hm
  apply Array.ext'
  rw [Array.toList_setIfInBounds]
  simp only [List.toList_toArray]
  rw [List.append_assoc, List.set_append_right _ _ (by omega), show pre.length + j - pre.length = j by omega, List.set_append_left _ _ hj, List.append_assoc]
theorem mid_cell {w : World} {g o : Nat} {t : TypeId} {pre mid post : List Value} (hg : w.heap[g]? = some (.cells (pre ++ mid ++ post).toArray t (0, 0))) (ho : pre.length = o) {j : Nat} {v : Value} (hv : mid[j]? = some v) :
    w.cell? ⟨g, o + j, none⟩ = some v := by
  have hj := (List.getElem?_eq_some_iff.1 hv).1
  rw [cell_of_row w g (o + j) _ t (0, 0) hg]
  simp only [List.getElem?_toArray, ← ho]
  rw [List.append_assoc, List.getElem?_append_right (by omega), show pre.length + j - pre.length = j by omega, List.getElem?_append_left hj]
  exact hv
theorem mid_range {w : World} {g o : Nat} {t : TypeId} {pre mid post : List Value} (hg : w.heap[g]? = some (.cells (pre ++ mid ++ post).toArray t (0, 0))) (ho : pre.length = o) {j : Nat} {cs : List Value} (hv : ∀ i u, cs[i]? = some u → mid[j + i]? = some u) :
    w.rangeAt g (o + j) cs := fun i u hu => by rw [Nat.add_assoc]; exact mid_cell hg ho (hv i u hu)
theorem wp_store_fld {P : Program} {o : Oper} {a : Act} {w : World} {K : Act → World → Prop} {Q : Exit → Act → World → Prop} (ty : TypeId) (x y : Operand) (ho : o.op = .store ty x y)
    (g i j : Nat) (v : Value) (hx : a.eval x = .pointer (some ⟨g, i + j, none⟩)) (hy : a.eval y = v) (h1 : v.oneCell' = true) (t : TypeId) (pre mid mid' post : List Value)
    (hg : w.heap[g]? = some (.cells (pre ++ mid ++ post).toArray t (0, 0))) (hp : pre.length = i) (hi : (P.info? ty).map (·.size) = some 1) (hj : j < mid.length) (hm : mid.set j v = mid')
    (h : K (a.put o.dst undef) (w.setRow g (pre ++ mid' ++ post).toArray)) : o.wp P a w K Q := by
  unfold Oper.wp execOp
  simp only [ho, hx, hy, Sem.run_bind, Sem.run_pure, Result.andThen_ok, run_storeAt_into w g (i + j) t ty _ _ v hg hi (by simp; omega) h1 (set_mid hp hj hm)]
  exact h
theorem wpList_store_fld {P : Program} {ops : Array Oper} {rest : List Oper} {o : Oper} {a : Act} {w : World} {Q : Exit → Act → World → Prop} (hgd : Region.wanted o (yielded ops a.tmps) = true) (ty : TypeId) (x y : Operand) (ho : o.op = .store ty x y)
    (g i j : Nat) (v : Value) (hx : a.eval x = .pointer (some ⟨g, i + j, none⟩)) (hy : a.eval y = v) (h1 : v.oneCell' = true) (t : TypeId) (pre mid mid' post : List Value)
    (hg : w.heap[g]? = some (.cells (pre ++ mid ++ post).toArray t (0, 0))) (hp : pre.length = i) (hi : (P.info? ty).map (·.size) = some 1) (hj : j < mid.length) (hm : mid.set j v = mid')
    (h : wpList P ops Q rest (a.put o.dst undef) (w.setRow g (pre ++ mid' ++ post).toArray)) : wpList P ops Q (o :: rest) a w :=
  wpList_step fun _ hK => by
    rw [if_pos hgd]
    exact wp_store_fld ty x y ho g i j v hx hy h1 t pre mid mid' post hg hp hi hj hm (hK _ _ h)
theorem step_store_fld {P : Program} {ops : Array Oper} {o : Oper} {a : Act} {w : World} {K : Act → World → Prop} {Q : Exit → Act → World → Prop} {E : Prop} (hgd : Region.wanted o (yielded ops a.tmps) = true) (ty : TypeId) (x y : Operand) (ho : o.op = .store ty x y)
    (g i j : Nat) (v : Value) (hx : a.eval x = .pointer (some ⟨g, i + j, none⟩)) (hy : a.eval y = v) (h1 : v.oneCell' = true) (t : TypeId) (pre mid mid' post : List Value)
    (hg : w.heap[g]? = some (.cells (pre ++ mid ++ post).toArray t (0, 0))) (hp : pre.length = i) (hi : (P.info? ty).map (·.size) = some 1) (hj : j < mid.length) (hm : mid.set j v = mid')
    (h : K (a.put o.dst undef) (w.setRow g (pre ++ mid' ++ post).toArray)) : if Region.wanted o (yielded ops a.tmps) = true then Oper.wp P o a w K Q else E := by
  rw [if_pos hgd]
  exact wp_store_fld ty x y ho g i j v hx hy h1 t pre mid mid' post hg hp hi hj hm h

/-! ### rows -/
def RowPk (T : Nat → Prop) (w : World) (v : Value) (l : List Pk) : Prop :=
  ∃ l' : List (Pk × Value), RowAt w 32 5 v l'.length (l'.flatMap (FK pkC)) ∧ l'.map Prod.fst = l ∧ ∀ p ∈ l', ElK T w p.2 p.1.body
def RowIt (w : World) (v : Value) (l : List It) : Prop := RowAt w 82 2 v l.length (l.flatMap itC)
section
variable {T T' S : Nat → Prop} {w w' : World} {v : Value} {l : List Pk} {il : List It}
theorem RowPk.nil (T : Nat → Prop) (w : World) : RowPk T w (.slice none 0 0) [] := ⟨[], RowAt.nil _ _ _, rfl, fun p hp => by cases hp⟩
theorem RowIt.nil (w : World) : RowIt w (.slice none 0 0) [] := RowAt.nil _ _ _
theorem RowPk.only (h : RowPk T w v l) (ho : Only S w w') (hn : ∀ g, v.ownBlock = some g → ¬ S g) (hs : ∀ k, T k → ¬ S k) : RowPk T w' v l := by
  obtain ⟨l', h1, h2, h3⟩ := h
  exact ⟨l', h1.only ho hn, h2, fun p hp => (h3 p hp).only ho hs⟩
theorem RowPk.mono (h : RowPk T w v l) (hs : ∀ k, T k → T' k) : RowPk T' w v l := by
  obtain ⟨l', h1, h2, h3⟩ := h
  exact ⟨l', h1, h2, fun p hp => (h3 p hp).mono fun k _ => hs k⟩
theorem RowIt.only (h : RowIt w v il) (ho : Only S w w') (hn : ∀ g, v.ownBlock = some g → ¬ S g) : RowIt w' v il := RowAt.only h ho hn
theorem RowPk.lt (h : RowPk T w v l) : ∀ g, v.ownBlock = some g → g < w.heap.size := by
  obtain ⟨l', h1, h2, h3⟩ := h
  exact h1.lt
theorem RowIt.lt (h : RowIt w v il) : ∀ g, v.ownBlock = some g → g < w.heap.size := RowAt.lt h
theorem RowPk.form (h : RowPk T w v l) : ∃ A cap, v = .slice A l.length cap ∧ l.length ≤ cap ∧ (A = none → cap = 0) := by
  obtain ⟨l', h1, rfl, h3⟩ := h
  obtain ⟨A, cap, rfl, hc, hn⟩ := h1.form
  exact ⟨A, cap, by rw [List.length_map], by rw [List.length_map]; exact hc, fun e => (hn e).2⟩
theorem RowIt.form (h : RowIt w v il) : ∃ A cap, v = .slice A il.length cap ∧ il.length ≤ cap ∧ (A = none → cap = 0) := by
  obtain ⟨A, cap, rfl, hc, hn⟩ := RowAt.form h
  exact ⟨A, cap, rfl, hc, fun e => (hn e).2⟩
theorem slice_one {A : Option Addr} {n c : Nat} : (Value.slice A n c).oneCell' = true := rfl
theorem RowPk.one (h : RowPk T w v l) : v.oneCell' = true := by obtain ⟨A, c, rfl, -⟩ := h.form; rfl
theorem RowIt.one (h : RowIt w v il) : v.oneCell' = true := by obtain ⟨A, c, rfl, -⟩ := h.form; rfl
theorem flatF_len {α : Type} {F : α → List Value} {s : Nat} (hF : ∀ a, (F a).length = s) : ∀ l : List α, (l.flatMap F).length = l.length * s
  | [] => by simp
  | a :: l => by rw [List.flatMap_cons, List.length_append, hF, flatF_len hF l, List.length_cons, Nat.succ_mul]; omega
/-- as a row of structs. -/
theorem RowAt.rowS {α : Type} {F : α → List Value} {s : Nat} {d : α} {e : TypeId} {l : List α} {A : Option Addr} {c : Nat} (h : RowAt w e s (.slice A l.length c) l.length (l.flatMap F)) (hF : ∀ a, (F a).length = s) (hl : l.length ≤ maxLen) : RowS F s d w A l.length l := by
  refine ⟨rfl, hl, fun hp => ?_⟩
  obtain ⟨g, o, cap, e1, hr, -, -⟩ := h.cells hp
  cases e1
  refine ⟨g, o, rfl, fun i hi j u hu => ?_⟩
  have hj : j < s := by have := (List.getElem?_eq_some_iff.1 hu).1; rwa [hF] at this
  have := hr (i * s + j) u (by rw [flat_at (d := d) hF l i j hi hj]; exact hu)
  rwa [← Nat.add_assoc] at this
theorem RowIt.rowS {A : Option Addr} {c : Nat} (h : RowIt w (.slice A il.length c) il) (hl : il.length ≤ maxLen) : RowS itC 2 it00 w A il.length il := RowAt.rowS h (fun _ => rfl) hl
/-- as a row of packets. -/
theorem RowPk.row {A : Option Addr} {c : Nat} (h : RowPk T w (.slice A l.length c) l) (hl : l.length ≤ maxLen) : RowP T w A l := by
  obtain ⟨l', h1, rfl, h3⟩ := h
  rw [List.length_map] at h1 hl
  have := RowAt.rowS (d := pk00) h1 (fun _ => rfl) hl
  exact ⟨l', by rw [List.length_map]; exact this, rfl, h3⟩
/-- its first, and its rest. -/
theorem RowPk.first {p : Pk} {r : List Pk} (h : RowPk T w v (p :: r)) : ∃ g o cap u pre post, v = .slice (some ⟨g, o, none⟩) (r.length + 1) cap ∧ r.length + 1 ≤ cap ∧ pre.length = o ∧
    w.heap[g]? = some (.cells (pre ++ pkC p u ++ post).toArray 32 (0, 0)) ∧ ElK T w u p.body ∧
    ∀ (w2 : World) (cs : List Value), cs.length = 5 → (∀ k, T k → k ≠ g) → w2 = w.setRow g (pre ++ cs ++ post).toArray → RowPk T w2 (.slice (some (if cap = 1 then ⟨g, o, none⟩ else ⟨g, o + 5, none⟩)) r.length (cap - 1)) r := by
  obtain ⟨l', h1, h2, h3⟩ := h
  cases l' with
  | nil => cases h2
  | cons x r' =>
    obtain ⟨q, u⟩ := x
    simp only [List.map_cons, List.cons.injEq] at h2
    obtain ⟨rfl, rfl⟩ := h2
    rw [List.length_cons] at h1
    obtain ⟨hl, h4⟩ := h1
    rcases h4 with ⟨-, h0⟩ | ⟨g, o, cap, pre, post, rfl, hp, hg, hc, hm, hr⟩
    · omega
    · have e1 : pre ++ ((q, u) :: r').flatMap (FK pkC) ++ post = pre ++ pkC q u ++ (r'.flatMap (FK pkC) ++ post) := by
        rw [List.flatMap_cons]; simp [FK]
      rw [e1] at hg
      refine ⟨g, o, cap, u, pre, r'.flatMap (FK pkC) ++ post, by rw [List.length_map], by rw [List.length_map]; exact hc, hp, hg, h3 _ List.mem_cons_self, fun w2 cs hcs hTg hw2 => ?_⟩
      have hx : RowAt w2 32 5 (.slice (some ⟨g, o, none⟩) (r'.length + 1) cap) (r'.length + 1) (cs ++ r'.flatMap (FK pkC)) := by
        refine ⟨?_, .inr ⟨g, o, cap, pre, post, rfl, hp, ?_, hc, hm, hr⟩⟩
        · rw [List.length_append, hcs, flatF_len (s := 5) (fun _ => rfl), Nat.succ_mul]; omega
        · rw [hw2]
          have := setRow_heap w g _ (pre ++ cs ++ (r'.flatMap (FK pkC) ++ post)).toArray _ (0, 0) hg
          simpa [List.append_assoc] using this
      have ht := hx.tail
      rw [List.drop_append_of_le_length (by omega), List.drop_of_length_le (by omega), List.nil_append] at ht
      refine ⟨r', by rw [List.length_map]; exact ht, rfl, fun p hp => ?_⟩
      refine (h3 p (List.mem_cons_of_mem _ hp)).only (S := (· = g)) ?_ (fun k hk e => hTg k hk e)
      rw [hw2]
      exact only_setRow _ _ _
theorem RowIt.tail {x : It} {r : List It} (h : RowIt w v (x :: r)) : ∃ g o cap, v = .slice (some ⟨g, o, none⟩) (r.length + 1) cap ∧ r.length + 1 ≤ cap ∧ RowIt w (.slice (some (if cap = 1 then ⟨g, o, none⟩ else ⟨g, o + 2, none⟩)) r.length (cap - 1)) r := by
  have h' : RowAt w 82 2 v (r.length + 1) (itC x ++ r.flatMap itC) := h
  obtain ⟨g, o, cap, rfl, -, hc, -⟩ := h'.cells (by omega)
  refine ⟨g, o, cap, rfl, hc, ?_⟩
  have ht := h'.tail
  rw [List.drop_append_of_le_length (by show 2 ≤ 2; omega)] at ht
  have e : (itC x).drop 2 = [] := rfl
  rw [e, List.nil_append] at ht
  exact ht
end
theorem item_info' : (Try.prog.info? 82).map (fun i => (i.zero, i.size, i.bytes)) = some (some (.agg #[.int .i64 0, .int .i64 0]), 2, 16) := by kernel_rfl
/-- append of one packet, at a step. -/
theorem step_app_pk {ops : Array Oper} {o : Oper} {a : Act} {w : World} {K : Act → World → Prop} {Q : Exit → Act → World → Prop} {E : Prop} {T T' : Nat → Prop} (hgd : o.guard = none) (s x : Operand)
    (ho : o.op = .call { callee := .builtin .append, args := #[s, x], argTypes := #[39, 39] })
    (lv : Value) (l : List Pk) (hs : a.eval s = lv) (hP : RowPk T w lv l) (u : Pk) (y : Value) (ad : Addr) (c : Nat) (hx : a.eval x = .slice (some ad) 1 c) (hc : ∀ j q, (pkC u y)[j]? = some q → w.cell? (ad.add j) = some q) (hu : ElK T' w y u.body)
    (hTT : ∀ k, T k → T' k) (hd : ∀ k, lv.ownBlock = some k → ¬ T' k) (hk : l.length ≤ 1000000)
    (h : ∀ v w', RowPk T' w' v (l ++ [u]) → Only (fun j => lv.ownBlock = some j) w w' → (∀ g, v.ownBlock = some g → lv.ownBlock = some g ∨ g = w.heap.size) → K (a.put o.dst v) w') :
    if Region.wanted o (yielded ops a.tmps) = true then Oper.wp Try.prog o a w K Q else E := by
  obtain ⟨i0, hi0, hz0, hz1, hz2⟩ := info_parts' pkt_info
  obtain ⟨l', h1, rfl, h3⟩ := hP
  rw [List.length_map] at hk
  have hone : ∀ q ∈ pkC u y, q.oneCell' = true := by
    obtain ⟨a, m, c, rfl, _⟩ := hu
    exact pkC_one _ _ _ _
  refine step_append_at hgd s x 39 ho 32 i0 (.agg #[.int .i64 0, .int .u32 0, .int .i64 0, .int .i64 0, .slice none 0 0]) 5 56 Try.underlying39 hi0 hz0 hz1 hz2 rfl lv l'.length _ hs h1 ad 1 c (pkC u y) hx rfl hc hone (by omega) (by unfold maxLen; omega) (by omega) ?_
  intro g of cap w' h4 h5 h6
  have hO : Only (fun k => lv.ownBlock = some k) w w' := (Only.refl _ w).grown h5 fun k hk _ => hk
  have hs' : ∀ k, T' k → ¬ lv.ownBlock = some k := fun k hk e => hd k e hk
  refine h _ w' ⟨l' ++ [(u, y)], ?_, by simp, fun p hp => ?_⟩ hO fun g' hg' => ?_
  · rw [List.flatMap_append, List.length_append]
    simpa [FK] using h4
  · rcases List.mem_append.1 hp with hp | hp
    · exact ((h3 p hp).mono fun k _ => hTT k).only hO hs'
    · rw [List.mem_singleton.1 hp]; exact hu.only hO hs'
  · have e1 : g' = g := by simpa [Value.ownBlock] using hg'.symm
    rw [e1]; exact h6
/-- append of one item, at a step. -/
theorem step_app_it {ops : Array Oper} {o : Oper} {a : Act} {w : World} {K : Act → World → Prop} {Q : Exit → Act → World → Prop} {E : Prop} (hgd : o.guard = none) (s x : Operand)
    (ho : o.op = .call { callee := .builtin .append, args := #[s, x], argTypes := #[64, 64] })
    (lv : Value) (l : List It) (hs : a.eval s = lv) (hP : RowIt w lv l) (u : It) (ad : Addr) (c : Nat) (hx : a.eval x = .slice (some ad) 1 c) (hc : ∀ j q, (itC u)[j]? = some q → w.cell? (ad.add j) = some q)
    (hk : l.length ≤ 1000000)
    (h : ∀ v w', RowIt w' v (l ++ [u]) → Only (fun j => lv.ownBlock = some j) w w' → (∀ g, v.ownBlock = some g → lv.ownBlock = some g ∨ g = w.heap.size) → K (a.put o.dst v) w') :
    if Region.wanted o (yielded ops a.tmps) = true then Oper.wp Try.prog o a w K Q else E := by
  obtain ⟨i0, hi0, hz0, hz1, hz2⟩ := info_parts' item_info'
  have hone : ∀ q ∈ itC u, q.oneCell' = true := by
    intro v hv
    simp [itC] at hv
    rcases hv with rfl | rfl <;> rfl
  refine step_append_at hgd s x 64 ho 82 i0 (.agg #[.int .i64 0, .int .i64 0]) 2 16 Try.underlying64 hi0 hz0 hz1 hz2 rfl lv l.length _ hs hP ad 1 c (itC u) hx rfl hc hone (by omega) (by unfold maxLen; omega) (by omega) ?_
  intro g of cap w' h4 h5 h6
  refine h _ w' ?_ ((Only.refl _ w).grown h5 fun k hk _ => hk) fun g' hg' => ?_
  · unfold RowIt
    rw [List.flatMap_append, List.length_append]
    simpa using h4
  · have e1 : g' = g := by simpa [Value.ownBlock] using hg'.symm
    rw [e1]; exact h6
/-! ### a flow inside its queue's block -/
def fcR (vp vi : Value) (n df : Int) (c : Cd) : List Value := [vp, vi, .int .i64 n, .int .i64 df, .int .i64 c.first, .int .i64 c.drop, .int .u32 (c.count : Nat), .int .u32 (c.last : Nat), .bool c.on]
/-- the flow l, il, n, df, c lies in block g between pre and post; its slices are vp, vi; bodies in T. -/
structure FlB (T : Nat → Prop) (w : World) (g : Nat) (tq : TypeId) (pre post : List Value) (vp vi : Value) (l : List Pk) (il : List It) (n df : Int) (c : Cd) : Prop where
  blk : w.heap[g]? = some (.cells (pre ++ fcR vp vi n df c ++ post).toArray tq (0, 0))
  pk : RowPk T w vp l
  it : RowIt w vi il
  pg : ∀ k, vp.ownBlock = some k → k ≠ g ∧ ¬ T k
  ig : ∀ k, vi.ownBlock = some k → k ≠ g ∧ ¬ T k
  pi : ∀ k, vp.ownBlock = some k → vi.ownBlock ≠ some k
  there : ∀ k, T k → k < w.heap.size
  gt : ¬ T g
section
variable {T S : Nat → Prop} {w w' : World} {g : Nat} {tq : TypeId} {pre post : List Value} {vp vi : Value} {l : List Pk} {il : List It} {n df : Int} {c : Cd}
theorem FlB.only (h : FlB T w g tq pre post vp vi l il n df c) (ho : Only S w w') (hg : ¬ S g) (hp : ∀ k, vp.ownBlock = some k → ¬ S k) (hi : ∀ k, vi.ownBlock = some k → ¬ S k) (ht : ∀ k, T k → ¬ S k) : FlB T w' g tq pre post vp vi l il n df c where
  blk := ho.at_ h.blk hg
  pk := h.pk.only ho hp ht
  it := h.it.only ho hi
  pg := h.pg
  ig := h.ig
  pi := h.pi
  there := fun k hk => Nat.lt_of_lt_of_le (h.there k hk) ho.size
  gt := h.gt
theorem FlB.quiet (h : FlB T w g tq pre post vp vi l il n df c) (hb : Below w.heap.size w w') : FlB T w' g tq pre post vp vi l il n df c :=
  h.only (S := fun _ => False) (Only.of_quiet hb) (fun e => e) (fun _ _ e => e) (fun _ _ e => e) (fun _ _ e => e)
theorem FlB.lt (h : FlB T w g tq pre post vp vi l il n df c) : g < w.heap.size := lt_blk h.blk
/-- numbers stored anew. -/
theorem FlB.store (h : FlB T w g tq pre post vp vi l il n df c) (n' df' : Int) (c' : Cd) : FlB T (w.setRow g (pre ++ fcR vp vi n' df' c' ++ post).toArray) g tq pre post vp vi l il n' df' c' :=
  have ho : Only (· = g) w (w.setRow g (pre ++ fcR vp vi n' df' c' ++ post).toArray) := only_setRow _ _ _
  { blk := setRow_heap w g _ _ _ _ h.blk
    pk := h.pk.only ho (fun k hk e => (h.pg k hk).1 e) (fun k hk e => h.gt (e ▸ hk))
    it := h.it.only ho (fun k hk e => (h.ig k hk).1 e)
    pg := h.pg
    ig := h.ig
    pi := h.pi
    there := fun k hk => Nat.lt_of_lt_of_le (h.there k hk) ho.size
    gt := h.gt }
/-- slices and numbers stored anew. -/
theorem FlB.put {old : Array Value} (hb : w.heap[g]? = some (.cells old tq (0, 0))) (hp : RowPk T w vp l) (hi : RowIt w vi il) (pg : ∀ k, vp.ownBlock = some k → k ≠ g ∧ ¬ T k) (ig : ∀ k, vi.ownBlock = some k → k ≠ g ∧ ¬ T k)
    (pi : ∀ k, vp.ownBlock = some k → vi.ownBlock ≠ some k) (ht : ∀ k, T k → k < w.heap.size) (gt : ¬ T g) : FlB T (w.setRow g (pre ++ fcR vp vi n df c ++ post).toArray) g tq pre post vp vi l il n df c :=
  have ho : Only (· = g) w (w.setRow g (pre ++ fcR vp vi n df c ++ post).toArray) := only_setRow _ _ _
  { blk := setRow_heap w g _ _ _ _ hb
    pk := hp.only ho (fun k hk e => (pg k hk).1 e) (fun k hk e => gt (e ▸ hk))
    it := hi.only ho (fun k hk e => (ig k hk).1 e)
    pg := pg
    ig := ig
    pi := pi
    there := fun k hk => Nat.lt_of_lt_of_le (ht k hk) ho.size
    gt := gt }
theorem FlB.cell (h : FlB T w g tq pre post vp vi l il n df c) {o : Nat} (ho : pre.length = o) {j : Nat} {v : Value} (hv : (fcR vp vi n df c)[j]? = some v) : w.cell? ⟨g, o + j, none⟩ = some v := mid_cell h.blk ho hv
end
end Go.Proofs.Ytaibopaagjodoaa
