/-
  MATHS OF FqOrder: what is put comes out once, each bucket's in its order. (Names Pk, Qu, outOf of FqM alone.)
-/
import Derived.Test.YtaibopaagjodoaaFqU
namespace Go.Proofs.Ytaibopaagjodoaa
set_option linter.unusedVariables false
set_option linter.unusedSimpArgs false

def ordP (i : Nat) (p : Pk) : Pk := ⟨(i : Int) + 1, p.flow, 0, 0, p.body⟩
def ordN (l : List Pk) (k : Nat) : List Pk := (List.range k).map fun i => ordP i (l.getD i pk00.1)
theorem ordN_succ (l : List Pk) (k : Nat) : ordN l (k + 1) = ordN l k ++ [ordP k (l.getD k pk00.1)] := by unfold ordN; rw [List.range_succ, List.map_append]; rfl
theorem ordN_len (l : List Pk) (k : Nat) : (ordN l k).length = k := by simp [ordN]
theorem ordN_mem {l : List Pk} {k : Nat} {p : Pk} : p ∈ ordN l k ↔ ∃ i, i < k ∧ p = ordP i (l.getD i pk00.1) := by
  unfold ordN
  rw [List.mem_map]
  constructor
  · rintro ⟨i, hi, rfl⟩; exact ⟨i, List.mem_range.1 hi, rfl⟩
  · rintro ⟨i, hi, rfl⟩; exact ⟨i, List.mem_range.2 hi, rfl⟩
theorem ordN_sorted (l : List Pk) : ∀ k, (ordN l k).Pairwise fun a b => a.id < b.id
  | 0 => List.Pairwise.nil
  | k + 1 => by
    rw [ordN_succ, List.pairwise_append]
    refine ⟨ordN_sorted l k, List.pairwise_singleton _ _, fun a ha b hb => ?_⟩
    obtain ⟨i, hi, rfl⟩ := ordN_mem.1 ha
    rw [List.mem_singleton.1 hb]
    show (i : Int) + 1 < (k : Int) + 1
    omega
section
variable {bk : Int → Nat} {l : List Pk} {q q' : Qu}
theorem ord_put {k : Nat} (h : ∀ b, (q.fl b).pk = outOf bk b (ordN l k)) : ∀ b, ((putQ bk q (ordP k (l.getD k pk00.1))).fl b).pk = outOf bk b (ordN l (k + 1)) := by
  intro b
  generalize hp : ordP k (l.getD k pk00.1) = p
  rw [ordN_succ, outOf_append, ← h b, hp]
  have one : ∀ c, ((setF q.fl (bk p.flow) ⟨(q.fl (bk p.flow)).pk ++ [p], c, (q.fl (bk p.flow)).cd⟩) b).pk = (q.fl b).pk ++ outOf bk b [p] := by
    intro c
    by_cases e : b = bk p.flow
    · subst e
      rw [setF_same]
      simp [outOf]
    · rw [setF_other _ _ e]
      have : (bk p.flow == b) = false := by simp; omega
      simp [outOf, this]
  unfold putQ
  split
  · exact one _
  · exact one _
theorem ord_take {P : Pl} {r : Option Pk} {ds O A : List Pk} (hT : Takes P q [] r ds q') (hI : InvQ bk q) (h : ∀ b, outOf bk b O ++ (q.fl b).pk = outOf bk b A) : ∀ b, outOf bk b (O ++ (ds ++ r.toList)) ++ (q'.fl b).pk = outOf bk b A := by
  intro b
  have e := (takes_keep hT hI).2.1 b
  rw [outOf_append, List.append_assoc, e]
  simpa [outOf] using h b
/-- one that comes out. -/
theorem ord_next {n : Nat} {M R : List Pk} {p : Pk} (h : ∀ b, ∃ t, outOf bk b (M ++ p :: R) ++ t = outOf bk b (ordN l n)) :
    (∃ i, i < n ∧ p = ordP i (l.getD i pk00.1)) ∧ (∀ m ∈ M, bk m.flow = bk p.flow → m.id < p.id) ∧ ∀ m ∈ M, m.id ≠ p.id := by
  obtain ⟨t, ht⟩ := h (bk p.flow)
  have e : outOf bk (bk p.flow) (M ++ p :: R) = outOf bk (bk p.flow) M ++ p :: outOf bk (bk p.flow) R := by simp [outOf]
  rw [e] at ht
  have hs : (outOf bk (bk p.flow) (ordN l n)).Pairwise fun a b => a.id < b.id := (ordN_sorted l n).filter _
  have hin : ∀ m ∈ M ++ p :: R, m ∈ ordN l n := fun m hm => by
    obtain ⟨t2, h2⟩ := h (bk m.flow)
    have h3 : m ∈ outOf bk (bk m.flow) (M ++ p :: R) := by unfold outOf; rw [List.mem_filter]; exact ⟨hm, by simp⟩
    have h4 : m ∈ outOf bk (bk m.flow) (ordN l n) := by rw [← h2]; exact List.mem_append_left _ h3
    exact (List.mem_filter.1 h4).1
  rw [← ht, List.append_assoc] at hs
  have hlt : ∀ m ∈ M, bk m.flow = bk p.flow → m.id < p.id := fun m hm eb => by
    have h1 := (List.pairwise_append.1 hs).2.2 m (by unfold outOf; rw [List.mem_filter]; exact ⟨hm, by simp [eb]⟩) p (by simp)
    exact h1
  refine ⟨ordN_mem.1 (hin p (by simp)), hlt, fun m hm em => ?_⟩
  obtain ⟨i, hi, rfl⟩ := ordN_mem.1 (hin m (by simp [hm]))
  obtain ⟨j, hj, hpj⟩ := ordN_mem.1 (hin p (by simp))
  have e1 : (i : Int) + 1 = p.id := em
  have e2 : (j : Int) + 1 = p.id := by rw [hpj]; rfl
  obtain rfl : i = j := by omega
  have := hlt _ hm (by rw [hpj])
  rw [← hpj] at this
  omega
theorem ord_le {n : Nat} {O : List Pk} (hb : ∀ f, bk f < 16) (h : ∀ b, outOf bk b O ++ (q.fl b).pk = outOf bk b (ordN l n)) : O.length ≤ n := by
  have h1 := len_buckets hb O
  have h2 := len_buckets hb (ordN l n)
  rw [ordN_len] at h2
  have : ∀ m : Nat, ((List.range m).map fun b => (outOf bk b O).length).sum ≤ ((List.range m).map fun b => (outOf bk b (ordN l n)).length).sum := by
    intro m
    induction m with
    | zero => simp
    | succ m ih =>
      rw [List.range_succ, List.map_append, List.map_append, List.sum_append, List.sum_append]
      have e := congrArg List.length (h m)
      rw [List.length_append] at e
      simp
      omega
  have := this 16
  omega
theorem ord_all {n : Nat} {O : List Pk} (hb : ∀ f, bk f < 16) (h : ∀ b, outOf bk b O ++ (q.fl b).pk = outOf bk b (ordN l n)) (he : ∀ b, (q.fl b).pk = []) : O.length = n := by
  have h1 := len_buckets hb O
  have h2 := len_buckets hb (ordN l n)
  rw [ordN_len] at h2
  have : (fun b => (outOf bk b O).length) = fun b => (outOf bk b (ordN l n)).length := by
    funext b
    have e := congrArg List.length (h b)
    rw [he b, List.append_nil] at e
    exact e
  rw [this] at h1
  omega
theorem len_empty (he : ∀ b, (q.fl b).pk = []) : lenTo q 16 = 0 ∧ bytTo q 16 = 0 := by
  have a : ∀ n, lenTo q n = 0 ∧ bytTo q n = 0 := by
    intro n
    induction n with
    | zero => exact ⟨rfl, rfl⟩
    | succ n ih =>
      rw [lenTo_succ, bytTo_succ, he n, ih.1, ih.2]
      exact ⟨rfl, rfl⟩
  exact a 16
/-- what the law keeps of those that came out. -/
structure SeenI (bk : Int → Nat) (n : Nat) (M : List Pk) (S : List Bool) (L : List Int) : Prop where
  lenS : S.length = n + 1
  lenL : L.length = 16
  seen : ∀ j, S.getD j false = true → ∃ m ∈ M, m.id = (j : Int)
  last : ∀ b, b < 16 → L.getD b 0 = 0 ∨ ∃ m ∈ M, bk m.flow = b ∧ m.id = L.getD b 0
theorem seen_zero (bk : Int → Nat) (n : Nat) : SeenI bk n [] (List.replicate (n + 1) false) (List.replicate 16 0) := by
  refine ⟨by simp, by simp, fun j hj => ?_, fun b hb => .inl ?_⟩
  · simp [List.getD, List.getElem?_replicate] at hj
    split at hj <;> simp at hj
  · have : ∀ b, b < 16 → (List.replicate 16 (0 : Int)).getD b 0 = 0 := by decide
    exact this b hb
theorem seen_next {n i : Nat} {M : List Pk} {S : List Bool} {L : List Int} {p : Pk} (h : SeenI bk n M S L) (hi : i < n) (hp : p.id = (i : Int) + 1) : SeenI bk n (M ++ [p]) (S.set (i + 1) true) (L.set (bk p.flow) p.id) := by
  refine ⟨by rw [List.length_set, h.lenS], by rw [List.length_set, h.lenL], fun j hj => ?_, fun b hb => ?_⟩
  · by_cases e : j = i + 1
    · subst e; exact ⟨p, by simp, by rw [hp]; simp⟩
    · have : (S.set (i + 1) true).getD j false = S.getD j false := by simp [List.getD, List.getElem?_set_ne (Ne.symm e)]
      rw [this] at hj
      obtain ⟨m, hm, e2⟩ := h.seen j hj
      exact ⟨m, by simp [hm], e2⟩
  · by_cases e : bk p.flow = b
    · right
      refine ⟨p, by simp, e, ?_⟩
      subst e
      have := h.lenL
      simp [List.getD, List.getElem?_set, show bk p.flow < L.length by omega]
    · have : (L.set (bk p.flow) p.id).getD b 0 = L.getD b 0 := by simp [List.getD, List.getElem?_set_ne e]
      rw [this]
      rcases h.last b hb with h1 | ⟨m, hm, h1, h2⟩
      · exact .inl h1
      · exact .inr ⟨m, by simp [hm], h1, h2⟩
/-- its tests. -/
theorem seen_tests {n : Nat} {M : List Pk} {S : List Bool} {L : List Int} {p : Pk} {i : Nat} (h : SeenI bk n M S L) (hb : bk p.flow < 16) (hp : p.id = (i : Int) + 1) (h1 : ∀ m ∈ M, bk m.flow = bk p.flow → m.id < p.id) (h2 : ∀ m ∈ M, m.id ≠ p.id) :
    S.getD (i + 1) false = false ∧ L.getD (bk p.flow) 0 < p.id := by
  constructor
  · cases hs : S.getD (i + 1) false with
    | false => rfl
    | true =>
      obtain ⟨m, hm, e⟩ := h.seen _ hs
      exact absurd (by rw [e, hp]; simp) (h2 m hm)
  · rcases h.last _ hb with e | ⟨m, hm, e1, e2⟩
    · rw [e, hp]; omega
    · rw [← e2]; exact h1 m hm e1
/-- the one at k of those that come out next. -/
theorem ord_at {n k : Nat} {O AL : List Pk} {S : List Bool} {L : List Int} {p : Pk} (hb : ∀ f, bk f < 16) (h : ∀ b, outOf bk b (O ++ AL) ++ (q.fl b).pk = outOf bk b (ordN l n)) (hk : k < AL.length) (hS : SeenI bk n (O ++ AL.take k) S L) (hp : p = AL.getD k pk00.1) :
    ∃ id, id < n ∧ p.id = ((id + 1 : Nat) : Int) ∧ (l.getD id pk00.1).flow = p.flow ∧ (l.getD id pk00.1).body = p.body ∧ S.getD (id + 1) false = false ∧ L.getD (bk p.flow) 0 < p.id ∧ SeenI bk n (O ++ AL.take (k + 1)) (S.set (id + 1) true) (L.set (bk p.flow) p.id) := by
  have e : p = AL[k] := by rw [hp]; simp [List.getD, List.getElem?_eq_getElem hk]
  have hsp : (O ++ AL.take k) ++ p :: AL.drop (k + 1) = O ++ AL := by rw [e, ← List.drop_eq_getElem_cons hk, List.append_assoc, List.take_append_drop]
  have hsn : O ++ AL.take (k + 1) = (O ++ AL.take k) ++ [p] := by rw [e, List.append_assoc, List.take_succ_eq_append_getElem hk]
  obtain ⟨⟨id, hid, hpi⟩, hlt, hne⟩ := ord_next (bk := bk) (l := l) (n := n) (M := O ++ AL.take k) (R := AL.drop (k + 1)) (p := p) (fun b => ⟨(q.fl b).pk, by rw [hsp]; exact h b⟩)
  have hpid : p.id = (id : Int) + 1 := by rw [hpi]; rfl
  have ht := seen_tests hS (hb _) hpid hlt hne
  refine ⟨id, hid, by rw [hpid]; simp, by rw [hpi]; rfl, by rw [hpi]; rfl, ht.1, ht.2, ?_⟩
  rw [hsn]
  exact seen_next hS hid hpid
end
end Go.Proofs.Ytaibopaagjodoaa
