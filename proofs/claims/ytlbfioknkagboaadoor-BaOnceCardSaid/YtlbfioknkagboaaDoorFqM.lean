/-
  MATHS OF A QUEUE OF FLOWS: what is put, what a turn does, to take as a relation; that it is one; what it keeps; that it ends. No program is named.
-/
import Derived.Test.YtlbfioknkagboaaDoorCodelM
namespace Go.Proofs.YtlbfioknkagboaaDoor
set_option linter.unusedVariables false
set_option linter.unusedSimpArgs false

structure Pk where
  id : Int
  flow : Int
  tid : Int
  at_ : Int
  body : List Int
/-- a flow: its packets, its deficit, its codel. -/
structure Fl where
  pk : List Pk
  df : Int
  cd : Cd
/-- a queue: its flows, the new ones, the elder ones. -/
structure Qu where
  fl : Nat → Fl
  fresh : List Nat
  elder : List Nat
def bytesF (l : List Pk) : Int := (l.map fun p => (p.body.length : Int)).sum
def itemsF (l : List Pk) : List It := l.map fun p => ⟨p.at_, p.body.length⟩
theorem bytesF_snoc (l : List Pk) (p : Pk) : bytesF (l ++ [p]) = bytesF l + p.body.length := by simp [bytesF]
theorem bytesF_cons (p : Pk) (l : List Pk) : bytesF (p :: l) = p.body.length + bytesF l := by simp [bytesF]
theorem itemsF_len (l : List Pk) : (itemsF l).length = l.length := by simp [itemsF]
def setF (f : Nat → Fl) (b : Nat) (x : Fl) : Nat → Fl := fun k => if k = b then x else f k
theorem setF_same (f : Nat → Fl) (b : Nat) (x : Fl) : setF f b x b = x := by simp [setF]
theorem setF_other (f : Nat → Fl) {b k : Nat} (x : Fl) (h : k ≠ b) : setF f b x k = f k := by simp [setF, h]
def delL (l : List Nat) (b : Nat) : List Nat := l.filter fun k => k != b
theorem mem_del {l : List Nat} {b k : Nat} : k ∈ delL l b ↔ k ∈ l ∧ k ≠ b := by simp [delL]
theorem del_not {l : List Nat} {b : Nat} (h : b ∉ l) : delL l b = l := by
  unfold delL
  rw [List.filter_eq_self]
  intro k hk
  simp only [bne_iff_ne, ne_eq]
  exact fun e => h (e ▸ hk)
theorem del_head {r : List Nat} {b : Nat} (h : b ∉ r) : delL (b :: r) b = r := by
  have : delL (b :: r) b = delL r b := by simp [delL]
  rw [this, del_not h]
def putQ (bk : Int → Nat) (q : Qu) (p : Pk) : Qu :=
  if bk p.flow ∈ q.fresh ∨ bk p.flow ∈ q.elder then ⟨setF q.fl (bk p.flow) ⟨(q.fl (bk p.flow)).pk ++ [p], (q.fl (bk p.flow)).df, (q.fl (bk p.flow)).cd⟩, q.fresh, q.elder⟩
  else ⟨setF q.fl (bk p.flow) ⟨(q.fl (bk p.flow)).pk ++ [p], 300, (q.fl (bk p.flow)).cd⟩, q.fresh ++ [bk p.flow], q.elder⟩
/-- whose turn it is, and whether it is a new one. -/
def firstQ (q : Qu) : Option (Nat × Bool) :=
  match q.fresh with
  | b :: _ => some (b, true)
  | [] => match q.elder with
    | b :: _ => some (b, false)
    | [] => none
def turnQ (q : Qu) (b : Nat) : Qu := ⟨setF q.fl b ⟨(q.fl b).pk, (q.fl b).df + 300, (q.fl b).cd⟩, delL q.fresh b, delL q.elder b ++ [b]⟩
def pullF (P : Pl) (x : Fl) : Cd × Nat × Bool := pullR P x.cd (bytesF x.pk) (itemsF x.pk)
def goneQ (q : Qu) (b : Nat) (nw : Bool) (c : Cd) (n : Nat) : Qu :=
  ⟨setF q.fl b ⟨(q.fl b).pk.drop n, (q.fl b).df, c⟩, delL q.fresh b, if nw = true ∧ q.elder ≠ [] then delL q.elder b ++ [b] else delL q.elder b⟩
def lenO : Option Pk → Int
  | none => 0
  | some p => p.body.length
def tookQ (q : Qu) (b : Nat) (c : Cd) (n : Nat) : Qu :=
  ⟨setF q.fl b ⟨(q.fl b).pk.drop (n + 1), (q.fl b).df - lenO ((q.fl b).pk[n]?), c⟩, q.fresh, q.elder⟩
/-- to take: out of q, with ds dropped so far, r is taken (or none), ds' are dropped in all, q' is left. -/
inductive Takes (P : Pl) : Qu → List Pk → Option Pk → List Pk → Qu → Prop
  | none {q ds} : firstQ q = none → Takes P q ds none ds q
  | turn {q ds b nw r ds' q'} : firstQ q = some (b, nw) → (q.fl b).df ≤ 0 → Takes P (turnQ q b) ds r ds' q' → Takes P q ds r ds' q'
  | gone {q ds b nw c n r ds' q'} : firstQ q = some (b, nw) → 0 < (q.fl b).df → pullF P (q.fl b) = (c, n, false) → Takes P (goneQ q b nw c n) (ds ++ (q.fl b).pk.take n) r ds' q' → Takes P q ds r ds' q'
  | took {q ds b nw c n} : firstQ q = some (b, nw) → 0 < (q.fl b).df → pullF P (q.fl b) = (c, n, true) → Takes P q ds ((q.fl b).pk[n]?) (ds ++ (q.fl b).pk.take n) (tookQ q b c n)
/-- it is one. -/
theorem takes_one {P : Pl} {q : Qu} {ds : List Pk} {r : Option Pk} {ds1 : List Pk} {q1 : Qu} (h : Takes P q ds r ds1 q1) : ∀ {s : Option Pk} {ds2 : List Pk} {q2 : Qu}, Takes P q ds s ds2 q2 → r = s ∧ ds1 = ds2 ∧ q1 = q2 := by
  induction h with
  | none h1 =>
    intro s ds2 q2 h2
    cases h2 with
    | none _ => exact ⟨rfl, rfl, rfl⟩
    | turn a _ _ => rw [h1] at a; cases a
    | gone a _ _ _ => rw [h1] at a; cases a
    | took a _ _ => rw [h1] at a; cases a
  | turn h1 hd _ ih =>
    intro s ds2 q2 h2
    cases h2 with
    | none a => rw [h1] at a; cases a
    | turn a _ t => rw [h1] at a; cases a; exact ih t
    | gone a b _ _ => rw [h1] at a; cases a; omega
    | took a b _ => rw [h1] at a; cases a; omega
  | gone h1 hd hp _ ih =>
    intro s ds2 q2 h2
    cases h2 with
    | none a => rw [h1] at a; cases a
    | turn a b _ => rw [h1] at a; cases a; omega
    | gone a _ p t => rw [h1] at a; cases a; rw [hp] at p; cases p; exact ih t
    | took a _ p => rw [h1] at a; cases a; rw [hp] at p; cases p
  | took h1 hd hp =>
    intro s ds2 q2 h2
    cases h2 with
    | none a => rw [h1] at a; cases a
    | turn a b _ => rw [h1] at a; cases a; omega
    | gone a _ p _ => rw [h1] at a; cases a; rw [hp] at p; cases p
    | took a _ p => rw [h1] at a; cases a; rw [hp] at p; cases p; exact ⟨rfl, rfl, rfl⟩

/-! ### what a queue keeps -/
structure InvQ (bk : Int → Nat) (q : Qu) : Prop where
  nodup : (q.fresh ++ q.elder).Nodup
  lt : ∀ b ∈ q.fresh ++ q.elder, b < 16
  listed : ∀ b, (q.fl b).pk ≠ [] → b ∈ q.fresh ++ q.elder
  own : ∀ b, ∀ p ∈ (q.fl b).pk, bk p.flow = b
theorem firstQ_mem {q : Qu} {b : Nat} {nw : Bool} (h : firstQ q = some (b, nw)) : b ∈ q.fresh ++ q.elder := by
  unfold firstQ at h
  split at h
  · rename_i c r e
    cases h
    rw [e]; simp
  · rename_i e
    split at h
    · rename_i c r e2
      cases h
      rw [e2]; simp
    · cases h
theorem firstQ_none {q : Qu} (h : firstQ q = none) : q.fresh = [] ∧ q.elder = [] := by
  unfold firstQ at h
  split at h
  · cases h
  · rename_i e
    split at h
    · cases h
    · rename_i e2
      exact ⟨e, e2⟩
theorem firstQ_new {q : Qu} {b : Nat} (h : firstQ q = some (b, true)) : ∃ r, q.fresh = b :: r := by
  unfold firstQ at h
  split at h
  · rename_i c r e
    cases h
    exact ⟨r, e⟩
  · split at h <;> cases h
theorem firstQ_old {q : Qu} {b : Nat} (h : firstQ q = some (b, false)) : q.fresh = [] ∧ ∃ r, q.elder = b :: r := by
  unfold firstQ at h
  split at h
  · cases h
  · rename_i e
    split at h
    · rename_i c r e2
      cases h
      exact ⟨e, r, e2⟩
    · cases h
/-- the lists of one more turn. -/
theorem turn_lists {q : Qu} {b : Nat} (hn : (q.fresh ++ q.elder).Nodup) (hb : b ∈ q.fresh ++ q.elder) :
    (delL q.fresh b ++ (delL q.elder b ++ [b])).Nodup ∧ ∀ k, k ∈ delL q.fresh b ++ (delL q.elder b ++ [b]) ↔ k ∈ q.fresh ++ q.elder := by
  have e : delL q.fresh b ++ delL q.elder b = delL (q.fresh ++ q.elder) b := by simp [delL]
  constructor
  · rw [← List.append_assoc, e, List.nodup_append]
    refine ⟨hn.filter _, by simp, fun x hx y hy => ?_⟩
    rw [List.mem_singleton.1 hy]
    exact (mem_del.1 hx).2
  · intro k
    rw [← List.append_assoc, e, List.mem_append, mem_del, List.mem_singleton]
    constructor
    · rintro (h | rfl)
      · exact h.1
      · exact hb
    · intro h
      by_cases hk : k = b
      · exact .inr hk
      · exact .inl ⟨h, hk⟩
theorem drop_lists {q : Qu} {b : Nat} (hn : (q.fresh ++ q.elder).Nodup) :
    (delL q.fresh b ++ delL q.elder b).Nodup ∧ ∀ k, k ∈ delL q.fresh b ++ delL q.elder b ↔ k ∈ q.fresh ++ q.elder ∧ k ≠ b := by
  have e : delL q.fresh b ++ delL q.elder b = delL (q.fresh ++ q.elder) b := by simp [delL]
  rw [e]
  exact ⟨hn.filter _, fun k => mem_del⟩
theorem inv_put {bk : Int → Nat} {q : Qu} {p : Pk} (hb : ∀ f, bk f < 16) (h : InvQ bk q) : InvQ bk (putQ bk q p) := by
  unfold putQ
  split
  · rename_i hm
    refine ⟨h.nodup, h.lt, fun b hp => ?_, fun b x hx => ?_⟩
    · by_cases e : b = bk p.flow
      · rw [e, List.mem_append]; exact hm
      · simp only [setF_other _ _ e] at hp
        exact h.listed b hp
    · by_cases e : b = bk p.flow
      · subst e
        simp only [setF_same, List.mem_append, List.mem_singleton] at hx
        rcases hx with hx | rfl
        · exact h.own _ x hx
        · rfl
      · simp only [setF_other _ _ e] at hx
        exact h.own b x hx
  · rename_i hm
    have hm' : bk p.flow ∉ q.fresh ∧ bk p.flow ∉ q.elder := ⟨fun h => hm (.inl h), fun h => hm (.inr h)⟩
    refine ⟨?_, fun b hx => ?_, fun b hp => ?_, fun b x hx => ?_⟩
    · have := h.nodup
      rw [List.nodup_append] at this ⊢
      refine ⟨?_, this.2.1, fun a ha c hc => ?_⟩
      · rw [List.nodup_append]
        refine ⟨this.1, by simp, fun a ha c hc => ?_⟩
        rw [List.mem_singleton.1 hc]
        exact fun e => hm'.1 (e ▸ ha)
      · rcases List.mem_append.1 ha with ha | ha
        · exact this.2.2 a ha c hc
        · rw [List.mem_singleton.1 ha]
          exact fun e => hm'.2 (e ▸ hc)
    · simp only [List.mem_append, List.mem_singleton] at hx
      rcases hx with (hx | rfl) | hx
      · exact h.lt b (List.mem_append_left _ hx)
      · exact hb _
      · exact h.lt b (List.mem_append_right _ hx)
    · by_cases e : b = bk p.flow
      · simp [e]
      · simp only [setF_other _ _ e] at hp
        have := h.listed b hp
        simp only [List.mem_append, List.mem_singleton] at this ⊢
        rcases this with h1 | h1
        · exact .inl (.inl h1)
        · exact .inr h1
    · by_cases e : b = bk p.flow
      · subst e
        simp only [setF_same, List.mem_append, List.mem_singleton] at hx
        rcases hx with hx | rfl
        · exact h.own _ x hx
        · rfl
      · simp only [setF_other _ _ e] at hx
        exact h.own b x hx
theorem inv_turn {bk : Int → Nat} {q : Qu} {b : Nat} (h : InvQ bk q) (hb : b ∈ q.fresh ++ q.elder) : InvQ bk (turnQ q b) := by
  obtain ⟨t1, t2⟩ := turn_lists h.nodup hb
  refine ⟨t1, fun k hk => h.lt k ((t2 k).1 hk), fun k hk => (t2 k).2 (h.listed k ?_), fun k p hp => h.own k p ?_⟩
  · by_cases e : k = b
    · subst e; simpa [turnQ, setF_same] using hk
    · simpa [turnQ, setF_other _ _ e] using hk
  · by_cases e : k = b
    · subst e; simpa [turnQ, setF_same] using hp
    · simpa [turnQ, setF_other _ _ e] using hp
theorem inv_gone {bk : Int → Nat} {q : Qu} {b : Nat} {nw : Bool} {c : Cd} {n : Nat} (h : InvQ bk q) (hb : b ∈ q.fresh ++ q.elder) (hn : (q.fl b).pk.length ≤ n) : InvQ bk (goneQ q b nw c n) := by
  have hd : (q.fl b).pk.drop n = [] := List.drop_eq_nil_of_le hn
  have hown : ∀ k, ∀ p ∈ ((goneQ q b nw c n).fl k).pk, bk p.flow = k := by
    intro k p hp
    by_cases e : k = b
    · subst e
      simp [goneQ, setF_same, hd] at hp
    · simp only [goneQ, setF_other _ _ e] at hp
      exact h.own k p hp
  have hne : ∀ k, ((goneQ q b nw c n).fl k).pk ≠ [] → k ∈ q.fresh ++ q.elder ∧ k ≠ b := by
    intro k hk
    by_cases e : k = b
    · subst e
      simp [goneQ, setF_same, hd] at hk
    · simp only [goneQ, setF_other _ _ e] at hk
      exact ⟨h.listed k hk, e⟩
  by_cases hc : nw = true ∧ q.elder ≠ []
  · obtain ⟨t1, t2⟩ := turn_lists h.nodup hb
    have ee : (goneQ q b nw c n).elder = delL q.elder b ++ [b] := by simp only [goneQ]; rw [if_pos hc]
    refine ⟨by rw [ee]; exact t1, fun k hk => ?_, fun k hk => ?_, hown⟩
    · rw [ee] at hk; exact h.lt k ((t2 k).1 hk)
    · rw [ee]; exact (t2 k).2 (hne k hk).1
  · obtain ⟨t1, t2⟩ := drop_lists (q := q) (b := b) h.nodup
    have ee : (goneQ q b nw c n).elder = delL q.elder b := by simp only [goneQ]; rw [if_neg hc]
    refine ⟨by rw [ee]; exact t1, fun k hk => ?_, fun k hk => ?_, hown⟩
    · rw [ee] at hk; exact h.lt k ((t2 k).1 hk).1
    · rw [ee]; exact (t2 k).2 (hne k hk)
theorem inv_took {bk : Int → Nat} {q : Qu} {b : Nat} {c : Cd} {n : Nat} (h : InvQ bk q) : InvQ bk (tookQ q b c n) := by
  refine ⟨h.nodup, h.lt, fun k hk => h.listed k ?_, fun k p hp => h.own k p ?_⟩
  · by_cases e : k = b
    · subst e
      simp only [tookQ, setF_same] at hk
      exact fun e => hk (by rw [e]; simp)
    · simpa [tookQ, setF_other _ _ e] using hk
  · by_cases e : k = b
    · subst e
      simp only [tookQ, setF_same] at hp
      exact List.mem_of_mem_drop hp
    · simpa [tookQ, setF_other _ _ e] using hp
/-- what a pull of a flow answers. -/
theorem pullF_bound {P : Pl} {x : Fl} {c : Cd} {n : Nat} {is : Bool} (h : pullF P x = (c, n, is)) : (is = true → n < x.pk.length) ∧ (is = false → n = x.pk.length) := by
  have hb := pull_bound P x.cd (bytesF x.pk) (itemsF x.pk)
  unfold pullF at h
  rw [h, itemsF_len] at hb
  exact ⟨hb.2.1, hb.2.2.1⟩
/-- those of one bucket, in their order. -/
def outOf (bk : Int → Nat) (b : Nat) (l : List Pk) : List Pk := l.filter fun p => bk p.flow == b
theorem outOf_append (bk : Int → Nat) (b : Nat) (l r : List Pk) : outOf bk b (l ++ r) = outOf bk b l ++ outOf bk b r := by simp [outOf]
theorem outOf_all {bk : Int → Nat} {b : Nat} {l : List Pk} (h : ∀ p ∈ l, bk p.flow = b) : outOf bk b l = l := by
  unfold outOf; rw [List.filter_eq_self]; intro p hp; simpa using h p hp
theorem outOf_none {bk : Int → Nat} {b k : Nat} {l : List Pk} (h : ∀ p ∈ l, bk p.flow = b) (hk : k ≠ b) : outOf bk k l = [] := by
  unfold outOf; rw [List.filter_eq_nil_iff]; intro p hp; simp [h p hp]; exact fun e => hk e.symm
/-- each packet goes out once, of one bucket in their order; at the end nothing is left. -/
theorem takes_keep {bk : Int → Nat} {P : Pl} {q : Qu} {ds : List Pk} {r : Option Pk} {ds' : List Pk} {q' : Qu} (h : Takes P q ds r ds' q') (hI : InvQ bk q) :
    InvQ bk q' ∧ (∀ b, outOf bk b (ds' ++ r.toList) ++ (q'.fl b).pk = outOf bk b ds ++ (q.fl b).pk) ∧ (r = none → ∀ b, (q'.fl b).pk = []) := by
  induction h with
  | @none q ds h1 =>
    obtain ⟨e1, e2⟩ := firstQ_none h1
    refine ⟨hI, fun b => by simp, fun _ b => ?_⟩
    by_cases hb : (q.fl b).pk = []
    · exact hb
    · have := hI.listed b hb
      rw [e1, e2] at this
      cases this
  | @turn q ds b nw r ds' q' h1 hd ht ih =>
    obtain ⟨i1, i2, i3⟩ := ih (inv_turn hI (firstQ_mem h1))
    refine ⟨i1, fun k => ?_, i3⟩
    rw [i2 k]
    by_cases e : k = b
    · subst e; simp [turnQ, setF_same]
    · simp [turnQ, setF_other _ _ e]
  | @gone q ds b nw c n r ds' q' h1 hd hp ht ih =>
    have hn := (pullF_bound hp).2 rfl
    obtain ⟨i1, i2, i3⟩ := ih (inv_gone hI (firstQ_mem h1) (by omega))
    refine ⟨i1, fun k => ?_, i3⟩
    rw [i2 k, outOf_append]
    by_cases e : k = b
    · subst e
      simp only [goneQ, setF_same]
      rw [outOf_all (fun p hp => hI.own k p (List.mem_of_mem_take hp)), List.append_assoc, List.take_append_drop]
    · simp only [goneQ, setF_other _ _ e]
      rw [outOf_none (fun p hp => hI.own b p (List.mem_of_mem_take hp)) e, List.append_nil]
  | @took q ds b nw c n h1 hd hp =>
    have hn := (pullF_bound hp).1 rfl
    refine ⟨inv_took hI, fun k => ?_, fun h => ?_⟩
    · rw [outOf_append, outOf_append, List.getElem?_eq_getElem hn]
      simp only [Option.toList_some]
      by_cases e : k = b
      · subst e
        simp only [tookQ, setF_same]
        rw [outOf_all (fun p hp => hI.own k p (List.mem_of_mem_take hp)), outOf_all (l := [(q.fl k).pk[n]]) (fun p hp => hI.own k p (by rw [List.mem_singleton.1 hp]; exact List.getElem_mem hn))]
        rw [List.append_assoc, List.append_assoc, ← List.append_assoc (List.take n _), ← List.take_succ_eq_append_getElem hn, List.take_append_drop]
      · simp only [tookQ, setF_other _ _ e]
        rw [outOf_none (fun p hp => hI.own b p (List.mem_of_mem_take hp)) e, outOf_none (l := [(q.fl b).pk[n]]) (fun p hp => hI.own b p (by rw [List.mem_singleton.1 hp]; exact List.getElem_mem hn)) e]
        simp
    · rw [List.getElem?_eq_getElem hn] at h; cases h
/-- as many as go out of each bucket go out in all. -/
theorem len_buckets {bk : Int → Nat} (hb : ∀ f, bk f < 16) (l : List Pk) : l.length = ((List.range 16).map fun b => (outOf bk b l).length).sum := by
  induction l with
  | nil =>
    have : ∀ n : Nat, ((List.range n).map fun b => (outOf bk b ([] : List Pk)).length).sum = 0 := by
      intro n
      induction n with
      | zero => rfl
      | succ n ih => rw [List.range_succ, List.map_append, List.sum_append, ih]; simp [outOf]
    rw [this]; rfl
  | cons p r ih =>
    have key : ∀ n : Nat, ((List.range n).map fun b => (outOf bk b (p :: r)).length).sum = ((List.range n).map fun b => (outOf bk b r).length).sum + if bk p.flow < n then 1 else 0 := by
      intro n
      induction n with
      | zero => simp
      | succ n ihn =>
        rw [List.range_succ, List.map_append, List.sum_append, List.map_append, List.sum_append, ihn]
        simp only [List.map_cons, List.map_nil, List.sum_cons, List.sum_nil]
        by_cases e : bk p.flow = n
        · have : (outOf bk n (p :: r)).length = (outOf bk n r).length + 1 := by simp [outOf, e]
          rw [this, if_neg (by omega), if_pos (by omega)]
          omega
        · have : (outOf bk n (p :: r)).length = (outOf bk n r).length := by simp [outOf, e]
          rw [this]
          by_cases h : bk p.flow < n
          · rw [if_pos h, if_pos (by omega)]; omega
          · rw [if_neg h, if_neg (by omega)]; omega
    rw [key 16, if_pos (hb _), List.length_cons, ih]

/-! ### that it ends -/
def turns (d : Int) : Nat := if d ≤ 0 then (-d / 300).toNat + 1 else 0
theorem turns_next {d : Int} (h : d ≤ 0) : turns (d + 300) + 1 = turns d := by
  unfold turns
  rw [if_pos h]
  split <;> omega
def sumT (f : Nat → Nat) (n : Nat) : Nat := ((List.range n).map f).sum
theorem sumT_succ (f : Nat → Nat) (n : Nat) : sumT f (n + 1) = sumT f n + f n := by unfold sumT; rw [List.range_succ, List.map_append, List.sum_append]; simp
theorem sumT_same {f g : Nat → Nat} {n : Nat} (h : ∀ k, k < n → f k = g k) : sumT f n = sumT g n := by
  induction n with
  | zero => rfl
  | succ n ih => rw [sumT_succ, sumT_succ, ih fun k hk => h k (by omega), h n (by omega)]
theorem sumT_le {f g : Nat → Nat} {n : Nat} (h : ∀ k, k < n → f k ≤ g k) : sumT f n ≤ sumT g n := by
  induction n with
  | zero => exact Nat.le_refl _
  | succ n ih =>
    rw [sumT_succ, sumT_succ]
    have h1 := ih fun k hk => h k (by omega)
    have h2 := h n (by omega)
    omega
theorem sumT_one {f g : Nat → Nat} {n b : Nat} (hb : b < n) (h : ∀ k, k < n → k ≠ b → f k = g k) (e : f b + 1 = g b) : sumT f n + 1 = sumT g n := by
  induction n with
  | zero => omega
  | succ n ih =>
    rw [sumT_succ, sumT_succ]
    by_cases hn : b = n
    · subst hn
      rw [sumT_same fun k hk => h k (by omega) (by omega)]
      omega
    · have h1 := ih (by omega) fun k hk he => h k (by omega) he
      have h2 := h n (by omega) (fun e => hn e.symm)
      omega
/-- how many rounds there may be. -/
def muT (q : Qu) (b : Nat) : Nat := if b ∈ q.fresh ++ q.elder then turns (q.fl b).df else 0
def mu (q : Qu) : Nat := sumT (muT q) 16 + (2 * q.fresh.length + q.elder.length)
theorem del_len {l : List Nat} {b : Nat} (hn : l.Nodup) (hb : b ∈ l) : (delL l b).length + 1 = l.length := by
  induction l with
  | nil => cases hb
  | cons c r ih =>
    rw [List.nodup_cons] at hn
    by_cases e : c = b
    · subst e
      rw [del_head hn.1]; rfl
    · have hb' : b ∈ r := by
        rcases List.mem_cons.1 hb with h | h
        · exact absurd h.symm e
        · exact h
      have : delL (c :: r) b = c :: delL r b := by simp [delL, e]
      rw [this, List.length_cons, List.length_cons, ih hn.2 hb']
theorem lists_apart {q : Qu} (h : (q.fresh ++ q.elder).Nodup) : q.fresh.Nodup ∧ q.elder.Nodup ∧ ∀ b, b ∈ q.fresh → b ∉ q.elder := by
  rw [List.nodup_append] at h
  exact ⟨h.1, h.2.1, fun b h1 h2 => h.2.2 b h1 b h2 rfl⟩
theorem muT_of {q q' : Qu} {k : Nat} (hm : k ∈ q'.fresh ++ q'.elder ↔ k ∈ q.fresh ++ q.elder) (hd : (q'.fl k).df = (q.fl k).df) : muT q' k = muT q k := by
  unfold muT
  rw [hd]
  by_cases h : k ∈ q.fresh ++ q.elder
  · rw [if_pos h, if_pos (hm.2 h)]
  · rw [if_neg h, if_neg (fun h' => h (hm.1 h'))]
theorem muT_in {q : Qu} {k : Nat} (h : k ∈ q.fresh ++ q.elder) : muT q k = turns (q.fl k).df := by unfold muT; rw [if_pos h]
theorem muT_out {q : Qu} {k : Nat} (h : ¬ k ∈ q.fresh ++ q.elder) : muT q k = 0 := by unfold muT; rw [if_neg h]
theorem mu_turn {bk : Int → Nat} {q : Qu} {b : Nat} {nw : Bool} (h : InvQ bk q) (h1 : firstQ q = some (b, nw)) (hd : (q.fl b).df ≤ 0) : mu (turnQ q b) < mu q := by
  have hb := firstQ_mem h1
  obtain ⟨t1, t2⟩ := turn_lists h.nodup hb
  obtain ⟨n1, n2, n3⟩ := lists_apart h.nodup
  have hs : sumT (muT (turnQ q b)) 16 + 1 = sumT (muT q) 16 := by
    refine sumT_one (h.lt b hb) (fun k _ hk => muT_of (t2 k) (by simp only [turnQ, setF_other _ _ hk])) ?_
    rw [muT_in (q := turnQ q b) ((t2 b).2 hb), muT_in hb]
    simp only [turnQ, setF_same]
    exact turns_next hd
  have hl : 2 * (delL q.fresh b).length + (delL q.elder b ++ [b]).length ≤ 2 * q.fresh.length + q.elder.length := by
    rw [List.length_append, List.length_singleton]
    rcases List.mem_append.1 hb with hf | he
    · have := del_len n1 hf
      rw [del_not (n3 b hf)]
      omega
    · have := del_len n2 he
      rw [del_not fun hf => n3 b hf he]
      omega
  unfold mu
  show sumT (muT (turnQ q b)) 16 + (2 * (delL q.fresh b).length + (delL q.elder b ++ [b]).length) < _
  omega
theorem mu_gone {bk : Int → Nat} {q : Qu} {b : Nat} {nw : Bool} {c : Cd} {n : Nat} (h : InvQ bk q) (h1 : firstQ q = some (b, nw)) : mu (goneQ q b nw c n) < mu q := by
  have hb := firstQ_mem h1
  obtain ⟨n1, n2, n3⟩ := lists_apart h.nodup
  have hdf : ∀ k, ((goneQ q b nw c n).fl k).df = (q.fl k).df := fun k => by
    by_cases e : k = b
    · subst e; simp [goneQ, setF_same]
    · simp [goneQ, setF_other _ _ e]
  by_cases hc : nw = true ∧ q.elder ≠ []
  · obtain ⟨t1, t2⟩ := turn_lists h.nodup hb
    have ee : (goneQ q b nw c n).elder = delL q.elder b ++ [b] := by simp only [goneQ]; rw [if_pos hc]
    have hs : sumT (muT (goneQ q b nw c n)) 16 = sumT (muT q) 16 := by
      refine sumT_same fun k _ => muT_of ?_ (hdf k)
      rw [ee]
      exact t2 k
    obtain ⟨r, hr⟩ := firstQ_new (q := q) (b := b) (by rw [h1, hc.1])
    have hf : b ∈ q.fresh := by rw [hr]; simp
    have := del_len n1 hf
    unfold mu
    rw [hs, ee, List.length_append, List.length_singleton, del_not (n3 b hf)]
    show _ + (2 * (delL q.fresh b).length + _) < _
    omega
  · obtain ⟨t1, t2⟩ := drop_lists (q := q) (b := b) h.nodup
    have ee : (goneQ q b nw c n).elder = delL q.elder b := by simp only [goneQ]; rw [if_neg hc]
    have hs : sumT (muT (goneQ q b nw c n)) 16 ≤ sumT (muT q) 16 := by
      refine sumT_le fun k _ => ?_
      by_cases hm : k ∈ q.fresh ++ q.elder ∧ k ≠ b
      · rw [muT_in (q := goneQ q b nw c n) (by rw [ee]; exact (t2 k).2 hm), muT_in hm.1, hdf]; exact Nat.le_refl _
      · rw [muT_out (q := goneQ q b nw c n) (by rw [ee]; exact fun h => hm ((t2 k).1 h))]; exact Nat.zero_le _
    have hl : 2 * (delL q.fresh b).length + (delL q.elder b).length + 1 ≤ 2 * q.fresh.length + q.elder.length := by
      rcases List.mem_append.1 hb with hf | he
      · have := del_len n1 hf
        rw [del_not (n3 b hf)]
        omega
      · have := del_len n2 he
        rw [del_not fun hf => n3 b hf he]
        omega
    unfold mu
    rw [ee]
    show _ + (2 * (delL q.fresh b).length + _) < _
    omega
/-- so a taking there is. -/
theorem takes_is {bk : Int → Nat} (P : Pl) (m : Nat) : ∀ (q : Qu) (ds : List Pk), mu q < m → InvQ bk q → ∃ r ds' q', Takes P q ds r ds' q' := by
  induction m with
  | zero => exact fun q ds h _ => absurd h (Nat.not_lt_zero _)
  | succ m ih =>
    intro q ds h hI
    cases h1 : firstQ q with
    | none => exact ⟨_, _, _, .none h1⟩
    | some bn =>
      obtain ⟨b, nw⟩ := bn
      by_cases hd : (q.fl b).df ≤ 0
      · obtain ⟨r, ds', q', ht⟩ := ih (turnQ q b) ds (Nat.lt_of_lt_of_le (mu_turn hI h1 hd) (Nat.le_of_lt_succ h)) (inv_turn hI (firstQ_mem h1))
        exact ⟨r, ds', q', .turn h1 hd ht⟩
      · have hd' : 0 < (q.fl b).df := Int.not_le.1 hd
        obtain ⟨c, n, is, hp⟩ : ∃ c n is, pullF P (q.fl b) = (c, n, is) := ⟨_, _, _, rfl⟩
        cases is with
        | true => exact ⟨_, _, _, .took h1 hd' hp⟩
        | false =>
          have hn := (pullF_bound hp).2 rfl
          obtain ⟨r, ds', q', ht⟩ := ih (goneQ q b nw c n) (ds ++ (q.fl b).pk.take n) (Nat.lt_of_lt_of_le (mu_gone hI h1) (Nat.le_of_lt_succ h)) (inv_gone hI (firstQ_mem h1) (Nat.le_of_eq hn.symm))
          exact ⟨r, ds', q', .gone h1 hd' hp ht⟩
end Go.Proofs.YtlbfioknkagboaaDoor
