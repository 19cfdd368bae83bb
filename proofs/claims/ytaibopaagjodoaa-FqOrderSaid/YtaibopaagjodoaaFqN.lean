/-
  MATHS OF A QUEUE OF FLOWS, IN A CALM: what nobody drops; a fair turn; a fresh flow goes ahead. No program is named.
-/
import Derived.Test.YtaibopaagjodoaaFqM
namespace Go.Proofs.Ytaibopaagjodoaa
set_option linter.unusedVariables false
set_option linter.unusedSimpArgs false

/-- the state of one that dropped nothing, behind a pull. -/
def cdC (c : Cd) : Cd := ⟨0, c.drop, c.count, c.last, false⟩
/-- nothing of this flow waits too long. -/
def CalmF (P : Pl) (x : Fl) : Prop := x.cd.on = false ∧ ∀ p ∈ x.pk, P.now - p.at_ < P.target
theorem pull_calmF {P : Pl} {x : Fl} {p : Pk} {r : List Pk} (h : CalmF P x) (e : x.pk = p :: r) : pullF P x = (cdC x.cd, 0, true) := by
  unfold pullF
  rw [e]
  refine pull_calm h.1 ?_
  unfold soonB
  rw [Bool.or_eq_true]
  refine .inl (decide_eq_true ?_)
  exact h.2 p (by rw [e]; simp)
/-- the first one of the flow whose turn it is. -/
theorem take_head {P : Pl} {q : Qu} {b : Nat} {nw : Bool} {p : Pk} {r : List Pk} (ds : List Pk) (h1 : firstQ q = some (b, nw)) (hd : 0 < (q.fl b).df) (hc : CalmF P (q.fl b)) (e : (q.fl b).pk = p :: r) :
    Takes P q ds (some p) ds (tookQ q b (cdC (q.fl b).cd) 0) := by
  have h := Takes.took (ds := ds) h1 hd (pull_calmF hc e)
  rw [e] at h
  simpa using h
theorem took_pk {q : Qu} {b : Nat} {c : Cd} {p : Pk} {r : List Pk} (e : (q.fl b).pk = p :: r) : (tookQ q b c 0).fl b = ⟨r, (q.fl b).df - p.body.length, c⟩ := by
  simp [tookQ, setF_same, e, lenO]
theorem took_other {q : Qu} {b k : Nat} {c : Cd} (h : k ≠ b) : (tookQ q b c 0).fl k = q.fl k := by simp [tookQ, setF_other _ _ h]

/-! ### a fair turn -/
/-- all that are listed have enough, of one size each, and nothing waits too long. -/
structure Busy (P : Pl) (sz : Nat → Int) (q : Qu) : Prop where
  calm : ∀ b ∈ q.fresh ++ q.elder, CalmF P (q.fl b)
  some_ : ∀ b ∈ q.fresh ++ q.elder, (q.fl b).pk ≠ []
  size : ∀ b ∈ q.fresh ++ q.elder, ∀ p ∈ (q.fl b).pk, (p.body.length : Int) = sz b
  pos : ∀ b ∈ q.fresh ++ q.elder, 0 < sz b
/-- T: what each was given so far. -/
def FairQ (sz T : Nat → Int) (q : Qu) : Prop := ∃ r : Nat → Int, (∀ b ∈ q.fresh ++ q.elder, T b = 300 * r b - (q.fl b).df) ∧ (∀ b ∈ q.fresh ++ q.elder, - sz b < (q.fl b).df ∧ (q.fl b).df ≤ 300) ∧
  (q.fresh ++ q.elder).Pairwise fun a b => r a ≤ r b ∧ r b ≤ r a + 1
theorem pair_all {L : List Nat} {r : Nat → Int} (h : L.Pairwise fun a b => r a ≤ r b ∧ r b ≤ r a + 1) {a b : Nat} (ha : a ∈ L) (hb : b ∈ L) : r a ≤ r b + 1 := by
  induction L with
  | nil => cases ha
  | cons c l ih =>
    rw [List.pairwise_cons] at h
    rcases List.mem_cons.1 ha with ea | ha'
    · rcases List.mem_cons.1 hb with eb | hb'
      · rw [ea, eb]; omega
      · have := (h.1 b hb').1; rw [ea]; omega
    · rcases List.mem_cons.1 hb with eb | hb'
      · rw [eb]; exact (h.1 a ha').2
      · exact ih h.2 ha' hb'
theorem fair_bound {sz T : Nat → Int} {q : Qu} (h : FairQ sz T q) {a b : Nat} (ha : a ∈ q.fresh ++ q.elder) (hb : b ∈ q.fresh ++ q.elder) : T a - T b ≤ 2 * 300 + sz a := by
  obtain ⟨r, h1, h2, h3⟩ := h
  have e1 := h1 a ha
  have e2 := h1 b hb
  have d1 := h2 a ha
  have d2 := h2 b hb
  have := pair_all h3 ha hb
  omega
/-- whose turn it is stands first of all. -/
theorem first_split {q : Qu} {b : Nat} {nw : Bool} (h : firstQ q = some (b, nw)) : ∃ l, q.fresh ++ q.elder = b :: l := by
  cases nw with
  | true =>
    obtain ⟨r, hr⟩ := firstQ_new h
    exact ⟨r ++ q.elder, by rw [hr]; rfl⟩
  | false =>
    obtain ⟨hf, r, hr⟩ := firstQ_old h
    exact ⟨r, by rw [hf, hr]; rfl⟩
theorem turn_split {q : Qu} {b : Nat} {l : List Nat} (hn : (q.fresh ++ q.elder).Nodup) (h : q.fresh ++ q.elder = b :: l) : (turnQ q b).fresh ++ (turnQ q b).elder = l ++ [b] := by
  show delL q.fresh b ++ (delL q.elder b ++ [b]) = l ++ [b]
  have e : delL q.fresh b ++ delL q.elder b = delL (q.fresh ++ q.elder) b := by simp [delL]
  rw [← List.append_assoc, e, h, del_head (by rw [h, List.nodup_cons] at hn; exact hn.1)]
theorem fair_turn {sz T : Nat → Int} {q : Qu} {b : Nat} {nw : Bool} (hn : (q.fresh ++ q.elder).Nodup) (h1 : firstQ q = some (b, nw)) (hd : (q.fl b).df ≤ 0) (h : FairQ sz T q) (hp : 0 < sz b) : FairQ sz T (turnQ q b) := by
  obtain ⟨l, hl⟩ := first_split h1
  have hs := turn_split hn hl
  have hbl : b ∉ l := by rw [hl, List.nodup_cons] at hn; exact hn.1
  obtain ⟨r, e1, e2, e3⟩ := h
  have mem : ∀ k, k ∈ l ++ [b] → k ∈ q.fresh ++ q.elder := fun k hk => by
    rw [hl]
    rcases List.mem_append.1 hk with h | h
    · exact List.mem_cons_of_mem _ h
    · rw [List.mem_singleton.1 h]; exact List.mem_cons_self
  refine ⟨fun k => if k = b then r b + 1 else r k, fun k hk => ?_, fun k hk => ?_, ?_⟩
  · rw [hs] at hk
    have := e1 k (mem k hk)
    by_cases hkb : k = b
    · subst hkb
      simp only [if_true, turnQ, setF_same]
      omega
    · simp only [if_neg hkb, turnQ, setF_other _ _ hkb]
      exact this
  · rw [hs] at hk
    have := e2 k (mem k hk)
    by_cases hkb : k = b
    · subst hkb
      simp only [turnQ, setF_same]
      omega
    · simp only [turnQ, setF_other _ _ hkb]
      exact this
  · rw [hs]
    rw [hl, List.pairwise_cons] at e3
    rw [List.pairwise_append]
    refine ⟨?_, by simp, fun a ha c hc => ?_⟩
    · refine e3.2.imp_of_mem fun {x y} hx hy hxy => ?_
      have hxb : x ≠ b := fun e => hbl (e ▸ hx)
      have hyb : y ≠ b := fun e => hbl (e ▸ hy)
      simp only [if_neg hxb, if_neg hyb]
      exact hxy
    · rw [List.mem_singleton.1 hc]
      have hab : a ≠ b := fun e => hbl (e ▸ ha)
      simp only [if_neg hab, if_true]
      have := e3.1 a ha
      omega
theorem fair_took {sz T : Nat → Int} {q : Qu} {b : Nat} {c : Cd} {p : Pk} {l : List Pk} (e : (q.fl b).pk = p :: l) (hp : (p.body.length : Int) = sz b) (hd : 0 < (q.fl b).df) (h : FairQ sz T q) :
    FairQ sz (fun k => if k = b then T b + sz b else T k) (tookQ q b c 0) := by
  obtain ⟨r, e1, e2, e3⟩ := h
  refine ⟨r, fun k hk => ?_, fun k hk => ?_, e3⟩
  · have := e1 k hk
    by_cases hkb : k = b
    · subst hkb
      rw [took_pk e]
      simp only [if_true]
      omega
    · rw [took_other hkb]
      simp only [if_neg hkb]
      exact this
  · have := e2 k hk
    by_cases hkb : k = b
    · subst hkb
      rw [took_pk e]
      dsimp only
      omega
    · rw [took_other hkb]; exact this
/-- one taking of a queue in which all have enough: the first one of some flow; fairness goes on. -/
theorem fair_take {bk : Int → Nat} {P : Pl} {sz : Nat → Int} {q : Qu} {ds : List Pk} {o : Option Pk} {ds' : List Pk} {q' : Qu} (h : Takes P q ds o ds' q') :
    ∀ {T : Nat → Int}, InvQ bk q → Busy P sz q → FairQ sz T q → q.fresh ++ q.elder ≠ [] →
    ∃ b p l, b ∈ q.fresh ++ q.elder ∧ (q.fl b).pk = p :: l ∧ o = some p ∧ ds' = ds ∧ FairQ sz (fun k => if k = b then T b + sz b else T k) q' ∧
      (∀ k, k ∈ q'.fresh ++ q'.elder ↔ k ∈ q.fresh ++ q.elder) ∧ (q'.fl b).pk = l ∧ (q'.fl b).cd.on = false ∧ ∀ k, k ≠ b → (q'.fl k).pk = (q.fl k).pk ∧ (q'.fl k).cd = (q.fl k).cd := by
  induction h with
  | none h1 =>
    intro T hI hB hF hne
    obtain ⟨a, b⟩ := firstQ_none h1
    rw [a, b] at hne
    exact absurd rfl hne
  | @turn q ds b nw r ds' q' h1 hd ht ih =>
    intro T hI hB hF hne
    have hb := firstQ_mem h1
    obtain ⟨t1, t2⟩ := turn_lists hI.nodup hb
    have same : ∀ k, ((turnQ q b).fl k).pk = (q.fl k).pk ∧ ((turnQ q b).fl k).cd = (q.fl k).cd := fun k => by
      by_cases e : k = b
      · subst e; simp [turnQ, setF_same]
      · simp [turnQ, setF_other _ _ e]
    have hB' : Busy P sz (turnQ q b) := by
      refine ⟨fun k hk => ⟨?_, ?_⟩, fun k hk => ?_, fun k hk => ?_, fun k hk => hB.pos k ((t2 k).1 hk)⟩
      · rw [(same k).2]; exact (hB.calm k ((t2 k).1 hk)).1
      · rw [(same k).1]; exact (hB.calm k ((t2 k).1 hk)).2
      · rw [(same k).1]; exact hB.some_ k ((t2 k).1 hk)
      · rw [(same k).1]; exact hB.size k ((t2 k).1 hk)
    obtain ⟨c, p, l, c1, c2, c3, c4, c5, c6, c7, c8, c9⟩ := ih (inv_turn hI hb) hB' (fair_turn hI.nodup h1 hd hF (hB.pos b hb)) (by
      intro e
      have : b ∈ (turnQ q b).fresh ++ (turnQ q b).elder := (t2 b).2 hb
      rw [e] at this
      cases this)
    refine ⟨c, p, l, (t2 c).1 c1, by rw [← (same c).1]; exact c2, c3, c4, c5, fun k => (c6 k).trans (t2 k), c7, c8, fun k hk => ?_⟩
    rw [(c9 k hk).1, (c9 k hk).2]
    exact same k
  | @gone q ds b nw c n r ds' q' h1 hd hp ht ih =>
    intro T hI hB hF hne
    have hb := firstQ_mem h1
    obtain ⟨p, l, e⟩ : ∃ p l, (q.fl b).pk = p :: l := by
      cases e : (q.fl b).pk with
      | nil => exact absurd e (hB.some_ b hb)
      | cons p l => exact ⟨p, l, rfl⟩
    rw [pull_calmF (hB.calm b hb) e] at hp
    cases hp
  | @took q ds b nw c n h1 hd hp =>
    intro T hI hB hF hne
    have hb := firstQ_mem h1
    obtain ⟨p, l, e⟩ : ∃ p l, (q.fl b).pk = p :: l := by
      cases e : (q.fl b).pk with
      | nil => exact absurd e (hB.some_ b hb)
      | cons p l => exact ⟨p, l, rfl⟩
    rw [pull_calmF (hB.calm b hb) e] at hp
    simp only [Prod.mk.injEq, and_true] at hp
    obtain ⟨rfl, rfl⟩ := hp
    refine ⟨b, p, l, hb, e, by rw [e]; rfl, by simp, fair_took e (hB.size b hb p (by rw [e]; simp)) hd hF, fun k => Iff.rfl, by rw [took_pk e], by rw [took_pk e]; rfl, fun k hk => ?_⟩
    rw [took_other hk]
    exact ⟨rfl, rfl⟩

/-! ### a fresh flow goes ahead -/
/-- it was in its turn, and has used it up: the next one, a fresh one, is taken. -/
theorem fresh_next {P : Pl} {q : Qu} {b k : Nat} {p : Pk} {r : List Pk} (ds : List Pk) (hf : q.fresh = [b, k]) (he : q.elder = []) (hbk : k ≠ b) (hd : (q.fl b).df ≤ 0) (hk : 0 < (q.fl k).df) (hc : CalmF P (q.fl k)) (e : (q.fl k).pk = p :: r) :
    Takes P q ds (some p) ds (tookQ (turnQ q b) k (cdC (q.fl k).cd) 0) := by
  have hfl : (turnQ q b).fl k = q.fl k := by simp [turnQ, setF_other _ _ hbk]
  have h1 : firstQ q = some (b, true) := by unfold firstQ; rw [hf]
  have h2 : firstQ (turnQ q b) = some (k, true) := by
    have : (turnQ q b).fresh = [k] := by
      show delL q.fresh b = [k]
      rw [hf, del_head (by simp; exact fun e => hbk e.symm)]
    unfold firstQ
    rw [this]
  refine .turn h1 hd ?_
  have := take_head (q := turnQ q b) ds h2 (by rw [hfl]; exact hk) (by rw [hfl]; exact hc) (by rw [hfl]; exact e)
  rw [hfl] at this
  exact this
/-- where it alone is fresh it is taken at once. -/
theorem fresh_once {P : Pl} {q : Qu} {k : Nat} {p : Pk} {r : List Pk} (ds : List Pk) (hf : q.fresh = [k]) (hk : 0 < (q.fl k).df) (hc : CalmF P (q.fl k)) (e : (q.fl k).pk = p :: r) :
    Takes P q ds (some p) ds (tookQ q k (cdC (q.fl k).cd) 0) := take_head ds (by unfold firstQ; rw [hf]) hk hc e
end Go.Proofs.Ytaibopaagjodoaa
