/-
  FOR FqPlays: fq's queue and the reference's side by side, a copy of the former, the law's own block: what they keep through calls.
-/
import Derived.Test.YtlkoleannlpflaaFqRk
import Derived.Test.YtlkoleannlpflaaMgF
import Derived.Test.YtlkoleannlpflaaFqRf
namespace Go.Proofs.Ytlkoleannlpflaa
open Go.ChangeShapes Go.WideShapes Go.ChangeAt Go.RowKit Go.Deep
set_option linter.unusedVariables false
set_option linter.unusedSimpArgs false

/-! ### the model -/
structure Mo (bk : Int → Nat) (i : Nat) (q : Qu) : Prop where
  inv : InvQ bk q
  few : FewC q
  len : ∀ b, b < 16 → (q.fl b).pk.length ≤ i
theorem Mo.fewQ {bk : Int → Nat} {i : Nat} {q : Qu} (h : Mo bk i q) : FewQ q := ⟨fun b hb => by have := h.few.len b hb; omega, fun b hb p hp => (h.few.el b hb p hp).2.2⟩
theorem Mo.up {bk : Int → Nat} {i j : Nat} {q : Qu} (h : Mo bk i q) (hij : i ≤ j) : Mo bk j q := ⟨h.inv, h.few, fun b hb => Nat.le_trans (h.len b hb) hij⟩
theorem mo_Z (bk : Int → Nat) : Mo bk 0 quZ := ⟨inv_Z bk, few_quZ, fun b _ => Nat.le_refl _⟩
theorem mo_put {bk : Int → Nat} {i : Nat} {q : Qu} {p : Pk} (h : Mo bk i q) (hb : ∀ f, bk f < 16) (hi : i < 1000) (he : 0 ≤ p.at_ ∧ p.at_ ≤ 4503599627370496 ∧ p.body.length ≤ 1000000) : Mo bk (i + 1) (putQ bk q p) := by
  refine ⟨inv_put hb h.inv, few_put (hb _) h.few (by have := h.len _ (hb p.flow); omega) he, fun b hb16 => ?_⟩
  have hl := h.len b hb16
  unfold putQ
  split <;> (dsimp only; by_cases e : b = bk p.flow
             · subst e; rw [setF_same]; simp; omega
             · rw [setF_other _ _ e]; omega)
theorem takes_short {P : Pl} {q : Qu} {ds : List Pk} {r : Option Pk} {ds' : List Pk} {q' : Qu} {N : Nat} (h : Takes P q ds r ds' q') : (∀ b, b < 16 → (q.fl b).pk.length ≤ N) → ∀ b, b < 16 → (q'.fl b).pk.length ≤ N := by
  induction h with
  | none _ => exact fun h => h
  | @turn q ds c nw r ds' q' _ _ _ ih =>
    refine fun h => ih fun b hb => ?_
    have := h b hb
    unfold turnQ
    dsimp only
    by_cases e : b = c
    · subst e; rw [setF_same]; exact this
    · rw [setF_other _ _ e]; exact this
  | @gone q ds c nw cd n r ds' q' _ _ _ _ ih =>
    refine fun h => ih fun b hb => ?_
    have := h b hb
    unfold goneQ
    dsimp only
    by_cases e : b = c
    · subst e; rw [setF_same, List.length_drop]; omega
    · rw [setF_other _ _ e]; exact this
  | @took q ds c nw cd n _ _ _ =>
    intro h b hb
    have := h b hb
    unfold tookQ
    dsimp only
    by_cases e : b = c
    · subst e; rw [setF_same, List.length_drop]; omega
    · rw [setF_other _ _ e]; exact this
theorem mo_take {bk : Int → Nat} {i : Nat} {q q' : Qu} {P : Pl} {r : Option Pk} {ds' : List Pk} (h : Mo bk i q) (ht : Takes P q [] r ds' q') (h0 : 0 ≤ P.now) (hM : P.now + 1073741824 ≤ 4503599627370496) : Mo bk i q' :=
  ⟨(takes_keep ht h.inv).1, takes_few ht h0 hM h.inv h.few, takes_short ht h.len⟩
theorem mo_drop {bk : Int → Nat} {i n : Nat} {q : Qu} (h : Mo bk i q) (hn : n < 16) : Mo bk i (dropQ q n) := by
  have hp : ∀ k, (setF q.fl n ⟨(q.fl n).pk.tail, (q.fl n).df, (q.fl n).cd⟩ k).pk = (q.fl k).pk ∨ (k = n ∧ (setF q.fl n ⟨(q.fl n).pk.tail, (q.fl n).df, (q.fl n).cd⟩ k).pk = (q.fl k).pk.tail) := fun k => by
    by_cases e : k = n
    · subst e; rw [setF_same]; exact .inr ⟨rfl, rfl⟩
    · rw [setF_other _ _ e]; exact .inl rfl
  have hm : ∀ k, ∀ a, a ∈ ((dropQ q n).fl k).pk → a ∈ (q.fl k).pk := fun k a ha => by
    unfold dropQ at ha
    rcases hp k with e | ⟨-, e⟩ <;> (dsimp only at ha; rw [e] at ha)
    · exact ha
    · exact List.mem_of_mem_tail ha
  refine ⟨⟨h.inv.nodup, h.inv.lt, fun k hk => h.inv.listed k fun e => hk ?_, fun k a ha => h.inv.own k a (hm k a ha)⟩, ?_, fun b hb => ?_⟩
  · unfold dropQ
    rcases hp k with e2 | ⟨-, e2⟩ <;> (dsimp only; rw [e2, e])
    rfl
  · unfold dropQ
    exact few_set h.few (by rw [List.length_tail]; have := h.few.len n hn; omega) (fun a ha => h.few.el n hn a (List.mem_of_mem_tail ha)) (h.few.cd n hn) (h.few.df n hn)
  · have hl := h.len b hb
    unfold dropQ
    rcases hp b with e | ⟨-, e⟩ <;> (dsimp only; rw [e])
    · exact hl
    · rw [List.length_tail]; omega
theorem len_all (q : Qu) : ∀ n, (allTo q n).length = lenTo q n
  | 0 => rfl
  | n + 1 => by rw [allTo_succ, List.length_append, lenTo_succ, len_all q n]

/-! ### side by side -/
structure PW (w0 : World) (x y : Rq) (w : World) (La : Nat → Prop) (T T2 : Nat → Prop) (V V2 : Nat → Value) (q p : Qu) : Prop where
  cq : IsCq T w x V q
  rq : IsRq T2 w y V2 p
  bel : Below w0.heap.size w0 w
  cnew : ∀ k, FootC x V k → w0.heap.size ≤ k
  rnew : ∀ k, FootR y V2 k → w0.heap.size ≤ k
  ap : ∀ k, FootC x V k → ¬ FootR y V2 k
  c1 : ∀ k, FootC x V k → ¬ T2 k
  c2 : ∀ k, FootR y V2 k → ¬ T k
  la : ∀ k, La k → k < w.heap.size ∧ ¬ FootC x V k ∧ ¬ FootR y V2 k
section
variable {w0 w w' : World} {x y : Rq} {La La' T T' T2 T2' : Nat → Prop} {V V' V2 V2' : Nat → Value} {q q' p p' : Qu}
theorem IsCq.foot (h : IsCq T w x V q) {k : Nat} (hk : FootC x V k) : ¬ T k := by
  rcases hk with rfl | ⟨i, hi, e⟩
  · exact h.apt
  · exact (h.apart i hi k e).2
theorem PW.quiet_la (h : PW w0 x y w La T T2 V V2 q p) (hb : Below w.heap.size w w') (hL : ∀ k, La' k → La k ∨ (w.heap.size ≤ k ∧ k < w'.heap.size) ∨ T k) : PW w0 x y w' La' T T2 V V2 q p :=
  ⟨h.cq.quiet hb, h.rq.below hb, h.bel.trans (hb.mono h.bel.size), h.cnew, h.rnew, h.ap, h.c1, h.c2, fun k hk => by
    rcases hL k hk with h1 | ⟨h1, h2⟩ | h1
    · exact ⟨Nat.lt_of_lt_of_le (h.la k h1).1 hb.size, (h.la k h1).2⟩
    · exact ⟨h2, fun e => by have := h.cq.lts e; omega, fun e => by have := h.rq.lts e; omega⟩
    · exact ⟨Nat.lt_of_lt_of_le (h.cq.there k h1) hb.size, fun e => h.cq.foot e h1, fun e => h.c2 k e h1⟩⟩
theorem PW.quiet (h : PW w0 x y w La T T2 V V2 q p) (hb : Below w.heap.size w w') : PW w0 x y w' La T T2 V V2 q p := h.quiet_la hb fun k hk => .inl hk
theorem PW.code (h : PW w0 x y w La T T2 V V2 q p) (hQ : IsCq T' w' x V' q') (hC : CqS T w x V T' w' V') : PW w0 x y w' La T' T2 V' V2 q' p where
  cq := hQ
  rq := h.rq.only hC.only (fun k hk e => h.ap k e hk) (fun k hk e => h.c1 k e hk)
  bel := h.bel.trans (hC.only.below (fun i hi e => by have := h.cnew i e; omega) h.bel.size)
  cnew := fun k hk => by
    rcases hC.fresh k hk with h1 | h1
    · exact h.cnew k h1
    · exact Nat.le_trans h.bel.size h1
  rnew := h.rnew
  ap := fun k hk e => by
    rcases hC.fresh k hk with h1 | h1
    · exact h.ap k h1 e
    · have := h.rq.lts e; omega
  c1 := fun k hk e => by
    rcases hC.fresh k hk with h1 | h1
    · exact h.c1 k h1 e
    · have := h.rq.there k e; omega
  c2 := fun k hk e => by
    rcases hC.ft k e with h1 | h1
    · exact h.c2 k hk h1
    · have := h.rq.lts hk; omega
  la := fun k hk => by
    obtain ⟨h1, h2, h3⟩ := h.la k hk
    refine ⟨Nat.lt_of_lt_of_le h1 hC.only.size, fun e => ?_, h3⟩
    rcases hC.fresh k e with h4 | h4
    · exact h2 h4
    · omega
theorem PW.ref (h : PW w0 x y w La T T2 V V2 q p) (hQ : IsRq T2' w' y V2' p') (hC : RqS T2 w y V2 T2' w' V2') : PW w0 x y w' La T T2' V V2' q p' where
  cq := h.cq.only hC.only (fun k hk e => h.ap k hk e) (fun k hk e => h.c2 k e hk)
  rq := hQ
  bel := h.bel.trans (hC.only.below (fun i hi e => by have := h.rnew i e; omega) h.bel.size)
  cnew := h.cnew
  rnew := fun k hk => by
    rcases hC.fresh k hk with h1 | h1
    · exact h.rnew k h1
    · exact Nat.le_trans h.bel.size h1
  ap := fun k hk e => by
    rcases hC.fresh k e with h1 | h1
    · exact h.ap k hk h1
    · have := h.cq.lts hk; omega
  c1 := fun k hk e => by
    rcases hC.ft k e with h1 | h1
    · exact h.c1 k hk h1
    · have := h.cq.lts hk; omega
  c2 := fun k hk e => by
    rcases hC.fresh k hk with h1 | h1
    · exact h.c2 k h1 e
    · have := h.cq.there k e; omega
  la := fun k hk => by
    obtain ⟨h1, h2, h3⟩ := h.la k hk
    refine ⟨Nat.lt_of_lt_of_le h1 hC.only.size, h2, fun e => ?_⟩
    rcases hC.fresh k e with h4 | h4
    · exact h3 h4
    · omega
end
/-- in a round: the law's own block gd, a copy z of the queue as it was. -/
def Lav (gd : Nat) (z : Rq) (U : Nat → Value) (T0 : Nat → Prop) (k : Nat) : Prop := k = gd ∨ FootC z U k ∨ T0 k
structure PD (w0 : World) (x y : Rq) (gd : Nat) (dc : Array Value) (z : Rq) (T0 : Nat → Prop) (U : Nat → Value) (qc : Qu) (w : World) (T T2 : Nat → Prop) (V V2 : Nat → Value) (q p : Qu) : Prop where
  pw : PW w0 x y w (Lav gd z U T0) T T2 V V2 q p
  db : w.heap[gd]? = some (.cells dc 34 (0, 0))
  cl : IsCq T0 w z U qc
section
variable {w0 w w' : World} {x y z : Rq} {gd : Nat} {dc : Array Value} {T T' T2 T2' T0 : Nat → Prop} {V V' V2 V2' U : Nat → Value} {q q' p p' qc : Qu}
theorem PD.quiet (h : PD w0 x y gd dc z T0 U qc w T T2 V V2 q p) (hb : Below w.heap.size w w') : PD w0 x y gd dc z T0 U qc w' T T2 V V2 q p :=
  ⟨h.pw.quiet hb, (hb.block _ (lt_blk h.db)).trans h.db, h.cl.quiet hb⟩
theorem PD.code (h : PD w0 x y gd dc z T0 U qc w T T2 V V2 q p) (hQ : IsCq T' w' x V' q') (hC : CqS T w x V T' w' V') : PD w0 x y gd dc z T0 U qc w' T' T2 V' V2 q' p :=
  ⟨h.pw.code hQ hC, hC.only.at_ h.db (h.pw.la gd (.inl rfl)).2.1, h.cl.only hC.only (fun k hk => (h.pw.la k (.inr (.inl hk))).2.1) (fun k hk => (h.pw.la k (.inr (.inr hk))).2.1)⟩
theorem PD.ref (h : PD w0 x y gd dc z T0 U qc w T T2 V V2 q p) (hQ : IsRq T2' w' y V2' p') (hC : RqS T2 w y V2 T2' w' V2') : PD w0 x y gd dc z T0 U qc w' T T2' V V2' q p' :=
  ⟨h.pw.ref hQ hC, hC.only.at_ h.db (h.pw.la gd (.inl rfl)).2.2, h.cl.only hC.only (fun k hk => (h.pw.la k (.inr (.inl hk))).2.2) (fun k hk => (h.pw.la k (.inr (.inr hk))).2.2)⟩
/-- the law's own block stored anew. -/
theorem PD.store (h : PD w0 x y gd dc z T0 U qc w T T2 V V2 q p) (dc' : Array Value) (hg : w0.heap.size ≤ gd) (hT : ¬ T gd ∧ ¬ T2 gd ∧ ¬ T0 gd ∧ ¬ FootC z U gd) : PD w0 x y gd dc' z T0 U qc (w.setRow gd dc') T T2 V V2 q p := by
  have ho := only_setRow w gd dc'
  have hl := h.pw.la gd (.inl rfl)
  refine ⟨⟨h.pw.cq.only ho (fun k hk e => hl.2.1 (e ▸ hk)) (fun k hk e => hT.1 (e ▸ hk)), h.pw.rq.only ho (fun k hk e => hl.2.2 (e ▸ hk)) (fun k hk e => hT.2.1 (e ▸ hk)), h.pw.bel.trans (ho.below (fun i hi e => by omega) h.pw.bel.size), h.pw.cnew, h.pw.rnew, h.pw.ap, h.pw.c1, h.pw.c2, fun k hk => ⟨Nat.lt_of_lt_of_le (h.pw.la k hk).1 ho.size, (h.pw.la k hk).2⟩⟩, setRow_heap w gd _ dc' _ (0, 0) h.db, h.cl.only ho (fun k hk e => hT.2.2.2 (e ▸ hk)) (fun k hk e => hT.2.2.1 (e ▸ hk))⟩
end
end Go.Proofs.Ytlkoleannlpflaa
