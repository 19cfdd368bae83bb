/-
  MATHS of a queue of few packets: what a turn, a pull and a taking keep; the lists behind each; how many are dropped at most. No program is named.
-/
import Derived.Test.YtaibopaagjodoaaFqN
import Derived.Test.YtaibopaagjodoaaKeptM
namespace Go.Proofs.Ytaibopaagjodoaa
set_option linter.unusedVariables false
set_option linter.unusedSimpArgs false

def bigM : Int := 4503599627370496
structure FewC (q : Qu) : Prop where
  len : ∀ b, b < 16 → (q.fl b).pk.length ≤ 1000
  el : ∀ b, b < 16 → ∀ p ∈ (q.fl b).pk, 0 ≤ p.at_ ∧ p.at_ ≤ 4503599627370496 ∧ p.body.length ≤ 1000000
  cd : ∀ b, b < 16 → Kept 4503599627370496 (q.fl b).cd
  df : ∀ b, b < 16 → -1000000 ≤ (q.fl b).df ∧ (q.fl b).df ≤ 300
theorem few_set {q : Qu} {b : Nat} {y : Fl} {fr el : List Nat} (h : FewC q) (hl : y.pk.length ≤ 1000) (he : ∀ p ∈ y.pk, 0 ≤ p.at_ ∧ p.at_ ≤ 4503599627370496 ∧ p.body.length ≤ 1000000) (hc : Kept 4503599627370496 y.cd) (hd : -1000000 ≤ y.df ∧ y.df ≤ 300) : FewC ⟨setF q.fl b y, fr, el⟩ := by
  refine ⟨fun k hk => ?_, fun k hk => ?_, fun k hk => ?_, fun k hk => ?_⟩ <;> by_cases e : k = b
  · subst e; simp only [setF_same]; exact hl
  · simp only [setF_other _ _ e]; exact h.len k hk
  · subst e; simp only [setF_same]; exact he
  · simp only [setF_other _ _ e]; exact h.el k hk
  · subst e; simp only [setF_same]; exact hc
  · simp only [setF_other _ _ e]; exact h.cd k hk
  · subst e; simp only [setF_same]; exact hd
  · simp only [setF_other _ _ e]; exact h.df k hk
theorem few_turn {q : Qu} {b : Nat} (h : FewC q) (hb : b < 16) (hd : (q.fl b).df ≤ 0) : FewC (turnQ q b) :=
  few_set h (h.len b hb) (h.el b hb) (h.cd b hb) (by have := h.df b hb; dsimp only; omega)
theorem few_gone {P : Pl} {q : Qu} {b : Nat} {nw : Bool} {c : Cd} {n : Nat} {is : Bool} (h : FewC q) (hb : b < 16) (h0 : 0 ≤ P.now) (hM : P.now + 1073741824 ≤ 4503599627370496) (hp : pullF P (q.fl b) = (c, n, is)) : FewC (goneQ q b nw c n) := by
  have hk := pull_kept h0 hM (h.cd b hb) (bytesF (q.fl b).pk) (itemsF (q.fl b).pk)
  unfold pullF at hp
  rw [hp] at hk
  refine few_set h ?_ (fun p hp => h.el b hb p (List.mem_of_mem_drop hp)) hk (h.df b hb)
  have := h.len b hb
  rw [List.length_drop]; omega
theorem few_took {P : Pl} {q : Qu} {b : Nat} {c : Cd} {n : Nat} (h : FewC q) (hb : b < 16) (h0 : 0 ≤ P.now) (hM : P.now + 1073741824 ≤ 4503599627370496) (hp : pullF P (q.fl b) = (c, n, true)) (hd : 0 < (q.fl b).df) : FewC (tookQ q b c n) := by
  have hk := pull_kept h0 hM (h.cd b hb) (bytesF (q.fl b).pk) (itemsF (q.fl b).pk)
  have hn := (pullF_bound hp).1 rfl
  unfold pullF at hp
  rw [hp] at hk
  refine few_set h ?_ (fun p hp => h.el b hb p (List.mem_of_mem_drop hp)) hk ?_
  · have := h.len b hb
    rw [List.length_drop]; omega
  · rw [List.getElem?_eq_getElem hn]
    have h1 := h.el b hb _ (List.getElem_mem hn)
    have h2 := h.df b hb
    unfold lenO
    dsimp only
    omega
/-! ### the lists -/
theorem turn_new {bk : Int → Nat} {q : Qu} {b : Nat} {r : List Nat} (h : InvQ bk q) (hf : q.fresh = b :: r) : turnQ q b = ⟨setF q.fl b ⟨(q.fl b).pk, (q.fl b).df + 300, (q.fl b).cd⟩, r, q.elder ++ [b]⟩ := by
  obtain ⟨n1, n2, n3⟩ := lists_apart h.nodup
  rw [hf, List.nodup_cons] at n1
  have hbe : b ∉ q.elder := n3 b (by rw [hf]; simp)
  unfold turnQ
  rw [hf, del_head n1.1, del_not hbe]
theorem turn_old {bk : Int → Nat} {q : Qu} {b : Nat} {r : List Nat} (h : InvQ bk q) (h0 : q.fresh = []) (hf : q.elder = b :: r) : turnQ q b = ⟨setF q.fl b ⟨(q.fl b).pk, (q.fl b).df + 300, (q.fl b).cd⟩, [], r ++ [b]⟩ := by
  obtain ⟨n1, n2, n3⟩ := lists_apart h.nodup
  rw [hf, List.nodup_cons] at n2
  unfold turnQ
  rw [h0, hf, del_head n2.1]
  rfl
theorem gone_new {bk : Int → Nat} {q : Qu} {b : Nat} {r : List Nat} (c : Cd) (n : Nat) (h : InvQ bk q) (hf : q.fresh = b :: r) : goneQ q b true c n = ⟨setF q.fl b ⟨(q.fl b).pk.drop n, (q.fl b).df, c⟩, r, if q.elder = [] then [] else q.elder ++ [b]⟩ := by
  obtain ⟨n1, n2, n3⟩ := lists_apart h.nodup
  rw [hf, List.nodup_cons] at n1
  have hbe : b ∉ q.elder := n3 b (by rw [hf]; simp)
  unfold goneQ
  rw [hf, del_head n1.1, del_not hbe]
  by_cases e : q.elder = []
  · rw [if_neg (fun h => h.2 e), if_pos e, e]
  · rw [if_pos ⟨rfl, e⟩, if_neg e]
theorem gone_old {bk : Int → Nat} {q : Qu} {b : Nat} {r : List Nat} (c : Cd) (n : Nat) (h : InvQ bk q) (h0 : q.fresh = []) (hf : q.elder = b :: r) : goneQ q b false c n = ⟨setF q.fl b ⟨(q.fl b).pk.drop n, (q.fl b).df, c⟩, [], r⟩ := by
  obtain ⟨n1, n2, n3⟩ := lists_apart h.nodup
  rw [hf, List.nodup_cons] at n2
  unfold goneQ
  rw [h0, hf, if_neg (fun h => by cases h.1), del_head n2.1]
  rfl
theorem nodup_lt : ∀ (n : Nat) (l : List Nat), l.Nodup → (∀ b ∈ l, b < n) → l.length ≤ n
  | 0, l, _, h => by
    cases l with
    | nil => exact Nat.le_refl _
    | cons b r => have := h b List.mem_cons_self; omega
  | n + 1, l, hn, h => by
    by_cases hm : n ∈ l
    · have h1 := del_len hn hm
      have h2 := nodup_lt n (delL l n) (hn.filter _) fun b hb => by
        have h3 := mem_del.1 hb
        have := h b h3.1
        omega
      omega
    · have h2 := nodup_lt n l hn fun b hb => by
        have := h b hb
        have : b ≠ n := fun e => hm (e ▸ hb)
        omega
      omega
theorem lists_len {bk : Int → Nat} {q : Qu} (h : InvQ bk q) : (q.fresh ++ q.elder).length ≤ 16 := by
  exact nodup_lt 16 _ h.nodup h.lt
/-! ### how many are dropped -/
theorem takes_pre {P : Pl} {q : Qu} {ds : List Pk} {r : Option Pk} {ds' : List Pk} {q' : Qu} (h : Takes P q ds r ds' q') : ds.length ≤ ds'.length := by
  induction h with
  | none _ => exact Nat.le_refl _
  | turn _ _ _ ih => exact ih
  | gone _ _ _ _ ih => rw [List.length_append] at ih; omega
  | took _ _ _ => rw [List.length_append]; omega
theorem sum_le {f : Nat → Nat} {k : Nat} : ∀ n, (∀ b, b < n → f b ≤ k) → ((List.range n).map f).sum ≤ n * k
  | 0, _ => by simp
  | n + 1, h => by
    rw [List.range_succ, List.map_append, List.sum_append, Nat.succ_mul]
    have h1 := sum_le n fun b hb => h b (by omega)
    have h2 := h n (by omega)
    simp
    omega
theorem takes_len {bk : Int → Nat} {P : Pl} {q : Qu} {r : Option Pk} {ds' : List Pk} {q' : Qu} (h : Takes P q [] r ds' q') (hI : InvQ bk q) (hb : ∀ f, bk f < 16) (hF : FewC q) : ds'.length ≤ 16000 := by
  obtain ⟨-, h2, -⟩ := takes_keep h hI
  rw [len_buckets hb ds']
  refine Nat.le_trans (sum_le (k := 1000) 16 fun b hb => ?_) (by decide)
  have h3 := congrArg List.length (h2 b)
  rw [outOf_append, List.append_assoc, List.length_append, List.length_append] at h3
  have h4 := hF.len b hb
  simp only [outOf, List.filter_nil, List.nil_append] at h3 ⊢
  omega
theorem few_put {bk : Int → Nat} {q : Qu} {p : Pk} (hb : bk p.flow < 16) (h : FewC q) (hl : (q.fl (bk p.flow)).pk.length < 1000) (he : 0 ≤ p.at_ ∧ p.at_ ≤ 4503599627370496 ∧ p.body.length ≤ 1000000) : FewC (putQ bk q p) := by
  unfold putQ
  split
  · exact few_set h (by simp; omega) (fun y hy => by
      rcases List.mem_append.1 hy with hy | hy
      · exact h.el _ hb y hy
      · rw [List.mem_singleton.1 hy]; exact he) (h.cd _ hb) (h.df _ hb)
  · exact few_set h (by simp; omega) (fun y hy => by
      rcases List.mem_append.1 hy with hy | hy
      · exact h.el _ hb y hy
      · rw [List.mem_singleton.1 hy]; exact he) (h.cd _ hb) ⟨by show (-1000000 : Int) ≤ 300; omega, Int.le_refl _⟩
theorem few_Z : FewC ⟨fun _ => ⟨[], 0, ⟨0, 0, 0, 0, false⟩⟩, [], []⟩ := ⟨fun b _ => Nat.zero_le _, (fun b _ p hp => by cases hp), (fun b _ => ⟨by show 0 < _; omega, by show 0 < _; omega, Int.le_refl _, by show (0 : Int) ≤ _; omega⟩), (fun b _ => ⟨by show (-1000000 : Int) ≤ 0; omega, by show (0 : Int) ≤ 300; omega⟩)⟩
theorem takes_few {bk : Int → Nat} {P : Pl} {q : Qu} {ds : List Pk} {r : Option Pk} {ds' : List Pk} {q' : Qu} (h : Takes P q ds r ds' q') (h0 : 0 ≤ P.now) (hM : P.now + 1073741824 ≤ 4503599627370496) : InvQ bk q → FewC q → FewC q' := by
  induction h with
  | none _ => exact fun _ h => h
  | turn h1 hd _ ih => exact fun hI hF => ih (inv_turn hI (firstQ_mem h1)) (few_turn hF (hI.lt _ (firstQ_mem h1)) hd)
  | gone h1 hd hp _ ih => exact fun hI hF => ih (inv_gone hI (firstQ_mem h1) (Nat.le_of_eq ((pullF_bound hp).2 rfl).symm)) (few_gone hF (hI.lt _ (firstQ_mem h1)) h0 hM hp)
  | took h1 hd hp => exact fun hI hF => few_took hF (hI.lt _ (firstQ_mem h1)) h0 hM hp hd
end Go.Proofs.Ytaibopaagjodoaa
