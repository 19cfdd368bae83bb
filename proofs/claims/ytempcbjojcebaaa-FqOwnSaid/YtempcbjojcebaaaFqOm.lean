/-
  FQ: maths of FqOwn: a calm queue gives its packets one by one.
-/
import Derived.Test.YtempcbjojcebaaaFqAa
import Derived.Test.YtempcbjojcebaaaMgF
import Derived.Test.YtempcbjojcebaaaFqCn
namespace Go.Proofs.Ytempcbjojcebaaa
open Go.ChangeShapes Go.WideShapes Go.ChangeAt Go.RowKit Go.Deep
set_option linter.unusedVariables false
set_option linter.unusedSimpArgs false

theorem allTo_Z : ∀ n, allTo quZ n = []
  | 0 => rfl
  | n + 1 => by rw [allTo_succ, allTo_Z n]; rfl
theorem allQ_Z : allQ quZ = [] := allTo_Z 16
theorem lenTo_all (q : Qu) : ∀ n, lenTo q n = (allTo q n).length
  | 0 => rfl
  | n + 1 => by rw [lenTo_succ, allTo_succ, List.length_append, lenTo_all q n]
theorem allTo_congr {q r : Qu} : ∀ n, (∀ b, b < n → (q.fl b).pk = (r.fl b).pk) → allTo q n = allTo r n
  | 0, _ => rfl
  | n + 1, h => by rw [allTo_succ, allTo_succ, allTo_congr n fun b hb => h b (by omega), h n (by omega)]
/-- one of a flow's turned. -/
theorem allTo_set {q : Qu} {b : Nat} {y : Fl} {fr el : List Nat} {p : Pk} (h : (q.fl b).pk.Perm (p :: y.pk)) : ∀ n, b < n → (allTo q n).Perm (p :: allTo ⟨setF q.fl b y, fr, el⟩ n)
  | 0, hb => by omega
  | n + 1, hb => by
    rw [allTo_succ, allTo_succ]
    by_cases e : b = n
    · subst e
      dsimp only
      rw [setF_same, allTo_congr (r := ⟨setF q.fl b y, fr, el⟩) b fun k hk => by dsimp only; rw [setF_other _ _ (by omega)]]
      exact (List.Perm.append_left _ h).trans List.perm_middle
    · dsimp only
      rw [setF_other _ _ (fun e2 => e e2.symm)]
      exact List.Perm.append_right _ (allTo_set h n (by omega))
theorem all_put {bk : Int → Nat} (hbk : ∀ f, bk f < 16) (q : Qu) (p : Pk) : (allQ (putQ bk q p)).Perm (p :: allQ q) := by
  have h : ∀ (df : Int) (cd : Cd) (fr el : List Nat), (allTo ⟨setF q.fl (bk p.flow) ⟨(q.fl (bk p.flow)).pk ++ [p], df, cd⟩, fr, el⟩ 16).Perm (p :: allTo q 16) := by
    intro df cd fr el
    have h1 := allTo_set (q := ⟨setF q.fl (bk p.flow) ⟨(q.fl (bk p.flow)).pk ++ [p], df, cd⟩, fr, el⟩) (b := bk p.flow) (y := q.fl (bk p.flow)) (fr := q.fresh) (el := q.elder) (p := p) (by dsimp only; rw [setF_same]; exact List.perm_append_singleton _ _) 16 (hbk _)
    refine h1.trans (List.Perm.of_eq ?_)
    congr 1
    refine allTo_congr 16 fun b _ => ?_
    by_cases e : b = bk p.flow
    · subst e; simp [setF_same]
    · simp only [setF_other _ _ e]
  unfold putQ allQ
  split <;> exact h _ _ _ _
def CalmQ (P : Pl) (q : Qu) : Prop := ∀ b, CalmF P (q.fl b)
theorem calm_set {P : Pl} {q : Qu} {b : Nat} {y : Fl} {fr el : List Nat} (h : CalmQ P q) (hy : CalmF P y) : CalmQ P ⟨setF q.fl b y, fr, el⟩ := fun k => by
  by_cases e : k = b
  · subst e; show CalmF P (setF q.fl k y k); rw [setF_same]; exact hy
  · show CalmF P (setF q.fl b y k); rw [setF_other _ _ e]; exact h k
theorem takes_calm {P : Pl} {q : Qu} {ds : List Pk} {r : Option Pk} {ds' : List Pk} {q' : Qu} (h : Takes P q ds r ds' q') : CalmQ P q → ds' = ds ∧ CalmQ P q' := by
  induction h with
  | none _ => exact fun hc => ⟨rfl, hc⟩
  | @turn q ds b nw r ds' q' h1 hd ht ih =>
    intro hc
    exact ih (calm_set hc ⟨(hc b).1, (hc b).2⟩)
  | @gone q ds b nw c n r ds' q' h1 hd hp ht ih =>
    intro hc
    cases hk : (q.fl b).pk with
    | nil =>
      have h2 : (c, n, false) = (cdC (q.fl b).cd, 0, false) := by
        rw [← hp]; unfold pullF; rw [hk]; rfl
      simp only [Prod.mk.injEq, and_true] at h2
      obtain ⟨rfl, rfl⟩ := h2
      have := ih (calm_set hc ⟨rfl, fun p hp2 => (hc b).2 p (List.mem_of_mem_drop hp2)⟩)
      rwa [List.take_zero, List.append_nil] at this
    | cons p t =>
      rw [pull_calmF (hc b) hk] at hp
      cases hp
  | @took q ds b nw c n h1 hd hp =>
    intro hc
    cases hk : (q.fl b).pk with
    | nil =>
      have h2 : (c, n, true) = (cdC (q.fl b).cd, 0, false) := by
        rw [← hp]; unfold pullF; rw [hk]; rfl
      simp at h2
    | cons p t =>
      rw [pull_calmF (hc b) hk] at hp
      simp only [Prod.mk.injEq, and_true] at hp
      obtain ⟨rfl, rfl⟩ := hp
      refine ⟨by rw [List.take_zero, List.append_nil], calm_set hc ⟨rfl, fun p hp2 => (hc b).2 p (List.mem_of_mem_drop hp2)⟩⟩
theorem all_one {q q' : Qu} {p : Pk} {b : Nat} (h : (q.fl b).pk = p :: (q'.fl b).pk) (ho : ∀ k, k ≠ b → (q.fl k).pk = (q'.fl k).pk) : ∀ n, b < n → (allTo q n).Perm (p :: allTo q' n)
  | 0, hb => by omega
  | n + 1, hb => by
    rw [allTo_succ, allTo_succ]
    by_cases e : b = n
    · subst e
      rw [allTo_congr (r := q') b fun k hk => ho k (by omega), h]
      exact List.perm_middle
    · rw [ho n (fun e2 => e e2.symm)]
      exact List.Perm.append_right _ (all_one h ho n (by omega))
/-- a calm queue gives the next one of some flow, or is empty. -/
theorem take_calm {bk : Int → Nat} (hbk : ∀ f, bk f < 16) {P : Pl} {q : Qu} {r : Option Pk} {ds : List Pk} {q' : Qu} (h : Takes P q [] r ds q') (hI : InvQ bk q) (hc : CalmQ P q) :
    ds = [] ∧ CalmQ P q' ∧ ((r = none ∧ allQ q = [] ∧ allQ q' = []) ∨ ∃ p, r = some p ∧ (allQ q).Perm (p :: allQ q')) := by
  obtain ⟨rfl, hc'⟩ := takes_calm h hc
  obtain ⟨-, h2, h3⟩ := takes_keep h hI
  refine ⟨rfl, hc', ?_⟩
  cases r with
  | none =>
    have e : ∀ b, (q'.fl b).pk = [] := h3 rfl
    have e2 : ∀ b, (q.fl b).pk = [] := fun b => by have := h2 b; rw [e b] at this; simpa using this.symm
    refine .inl ⟨rfl, ?_, ?_⟩
    · exact (allTo_congr (r := quZ) 16 fun b _ => by rw [e2 b]; rfl).trans allQ_Z
    · exact (allTo_congr (r := quZ) 16 fun b _ => by rw [e b]; rfl).trans allQ_Z
  | some p =>
    refine .inr ⟨p, rfl, all_one (b := bk p.flow) ?_ (fun k hk => ?_) 16 (hbk _)⟩
    · have := h2 (bk p.flow)
      simp [outOf] at this
      exact this.symm
    · have := h2 k
      have e : (bk p.flow == k) = false := by simp; exact fun e => hk e.symm
      simp [outOf, e] at this
      exact this.symm
theorem calm_put {P : Pl} {bk : Int → Nat} {q : Qu} {p : Pk} (h : CalmQ P q) (hp : P.now - p.at_ < P.target) : CalmQ P (putQ bk q p) := by
  have h1 : ∀ df, CalmF P ⟨(q.fl (bk p.flow)).pk ++ [p], df, (q.fl (bk p.flow)).cd⟩ := fun df => ⟨(h _).1, fun a ha => by
    rcases List.mem_append.1 ha with ha | ha
    · exact (h _).2 a ha
    · rw [List.mem_singleton.1 ha]; exact hp⟩
  unfold putQ
  split <;> exact calm_set h (h1 _)
theorem run_storeAt_cell {P : Program} (w : World) (g j : Nat) (ty : TypeId) (v0 v : Value) (hcell : w.cell? ⟨g, j, none⟩ = some v0) (hfro : w.frozen? ⟨g, j, none⟩ = false) (hi : (P.info? ty).map (·.size) = some 1) (h1 : v.oneCell' = true) :
    (Instr.storeAt ty (.pointer (some ⟨g, j, none⟩)) v).run P w = .ok () (w.setCell ⟨g, j, none⟩ v) := by
  have hc : v.cells = #[v] := by cases v <;> first | rfl | cases h1
  have hst : (store ⟨g, j, none⟩ v).run P w = .ok () (w.setCell ⟨g, j, none⟩ v) := by
    rw [run_store P w _ v _ h1, hcell]
    simp [hfro]
  have hadd : (⟨g, j, none⟩ : Addr).add 0 = ⟨g, j, none⟩ := by unfold Addr.add; split <;> simp_all
  cases hq : P.info? ty with
  | none => simp [hq] at hi
  | some inf =>
    have hs : inf.size = 1 := by simpa [hq] using hi
    simp [Instr.storeAt, Instr.sureAddr, storeVar, sizeOf, typeInfo, hq, hc, hs, storeCells, hadd, hst, Result.andThen]
theorem wpList_store_only {P : Program} {ops : Array Oper} {rest : List Oper} {o : Oper} {a : Act} {w : World} {Q : Exit → Act → World → Prop} (hgd : Region.wanted o (yielded ops a.tmps) = true) (ty : TypeId) (x y : Operand) (ho : o.op = .store ty x y)
    (B : Nat) (T : TypeId) (k : IntKind) (g j n cap : Nat) (xs ys : List Int) (v : Int) (hx : a.eval x = .pointer (some ⟨g, j, none⟩)) (hy : a.eval y = .int k v) (hO : OwnB w B T k g n cap xs) (hj : j < n) (hi : (P.info? ty).map (·.size) = some 1) (hset : xs.set j v = ys)
    (h : ∀ w', Shut (OwnB w' B T k g n cap ys) → Shut (Only (· = g) w w') → wpList P ops Q rest (a.put o.dst undef) w') : wpList P ops Q (o :: rest) a w :=
  wpList_step fun _ hK => by
    rw [if_pos hgd]
    unfold Oper.wp execOp
    simp only [ho, hx, hy, Sem.run_bind, Sem.run_pure, Result.andThen_ok, run_storeAt_cell w g j ty _ (.int k v) (hO.cell j hj) (hO.frozen j) hi rfl]
    subst hset
    exact hK _ _ (h _ (Shut.mk (hO.set j v)) (Shut.mk ((Only.refl (· = g) w).setCell (p := ⟨g, j, none⟩) (fun _ => rfl) _)))
/-! ### FqOwn's -/
def owP (i : Nat) (p : Pk) : Pk := ⟨(i : Int), p.flow, 0, 0, p.body⟩
def owN (l : List Pk) (k : Nat) : List Pk := (List.range k).map fun i => owP i (l.getD i pk00.1)
theorem owN_succ (l : List Pk) (k : Nat) : owN l (k + 1) = owN l k ++ [owP k (l.getD k pk00.1)] := by unfold owN; rw [List.range_succ, List.map_append]; rfl
theorem owN_len (l : List Pk) (k : Nat) : (owN l k).length = k := by simp [owN]
theorem owN_mem {l : List Pk} {k : Nat} {p : Pk} (h : p ∈ owN l k) : ∃ i, i < k ∧ p = owP i (l.getD i pk00.1) := by
  unfold owN at h
  rw [List.mem_map] at h
  obtain ⟨i, hi, rfl⟩ := h
  exact ⟨i, List.mem_range.1 hi, rfl⟩
theorem QW.only0 {bk : Int → Nat} {w0 w w' : World} {x : Rq} {T S : Nat → Prop} {V : Nat → Value} {q : Qu} (h : QW bk w0 x T w V q) (ho : Only S w w') (hf : ∀ k, FootC x V k → ¬ S k) (ht : ∀ k, T k → ¬ S k) (hs : ∀ k, k < w0.heap.size → ¬ S k) : QW bk w0 x T w' V q :=
  ⟨h.is.only ho hf ht, h.inv, h.few, h.bel.trans (ho.below hs h.bel.size), h.new⟩
theorem bucket_le (q : Qu) {b : Nat} : ∀ n, b < n → (q.fl b).pk.length ≤ (allTo q n).length
  | 0, h => by omega
  | n + 1, h => by
    rw [allTo_succ, List.length_append]
    by_cases e : b = n
    · subst e; omega
    · have := bucket_le q (b := b) n (by omega)
      omega
theorem sizeU8 : (Try.prog.info? 5).map (·.size) = some 1 := by kernel_rfl
/-- k packets are in. -/
structure OwI (bk : Int → Nat) (P : Pl) (l : List Pk) (k : Nat) (q : Qu) : Prop where
  all : (allQ q).Perm (owN l k)
  calm : CalmQ P q
/-- k packets are left of n. -/
structure LeftI (P : Pl) (l : List Pk) (n k : Nat) (q : Qu) : Prop where
  len : (allQ q).length = k
  all : ∀ p ∈ allQ q, ∃ i, i < n ∧ p = owP i (l.getD i pk00.1)
  calm : CalmQ P q
section
variable {bk : Int → Nat} {P : Pl} {l : List Pk} {n k : Nat} {q q' : Qu}
theorem OwI.left (h : OwI bk P l n q) : LeftI P l n n q := ⟨by rw [h.all.length_eq, owN_len], fun p hp => owN_mem (h.all.subset hp), h.calm⟩
theorem OwI.put (hbk : ∀ f, bk f < 16) (h : OwI bk P l k q) (hc : P.now < P.target) : OwI bk P l (k + 1) (putQ bk q (owP k (l.getD k pk00.1))) :=
  ⟨by
    refine (all_put hbk q _).trans ?_
    rw [owN_succ]
    exact (List.Perm.cons _ h.all).trans (List.perm_append_singleton _ _).symm, calm_put h.calm (by show P.now - 0 < P.target; omega)⟩
/-- one taken. -/
theorem LeftI.take (hbk : ∀ f, bk f < 16) {r : Option Pk} {ds : List Pk} (h : LeftI P l n (k + 1) q) (hI : InvQ bk q) (hT : Takes P q [] r ds q') :
    ds = [] ∧ LeftI P l n k q' ∧ ∃ i, i < n ∧ r = some (owP i (l.getD i pk00.1)) := by
  obtain ⟨hd, hc, hr⟩ := take_calm hbk hT hI h.calm
  rcases hr with ⟨-, h1, -⟩ | ⟨p, rfl, hp⟩
  · have := h.len
    rw [h1] at this
    simp at this
  · refine ⟨hd, ⟨?_, fun a ha => h.all a (hp.symm.subset (List.mem_cons_of_mem _ ha)), hc⟩, ?_⟩
    · have h1 := hp.length_eq
      rw [h.len, List.length_cons] at h1
      omega
    · obtain ⟨i, hi, e⟩ := h.all p (hp.symm.subset (List.mem_cons_self ..))
      exact ⟨i, hi, by rw [e]⟩
end
end Go.Proofs.Ytempcbjojcebaaa
