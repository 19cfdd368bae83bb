/-
  CONTRACTS of package sched as a law calls them: a law's own turns, a copy.
-/
import Derived.Test.YtkmblmnffnhpmaaDoorSchedS
import Derived.Test.YtkmblmnffnhpmaaDoorIntsA
import Derived.Test.YtkmblmnffnhpmaaDoorNum
import Derived.Test.YtkmblmnffnhpmaaDoorErrP
namespace Go.Proofs.YtkmblmnffnhpmaaDoor
open Go.ChangeShapes Go.WideShapes Go.ChangeAt Go.RowKit Go.Deep
set_option linter.unusedVariables false
set_option linter.unusedSimpArgs false

def IsSc (w : World) (S : Nat → Prop) (g : Nat) (l : List Tu) : Prop := ∃ v hl, ScI w g v hl l ∧ ∀ k, S k ↔ FootT g v k
theorem IsSc.below {w w' : World} {S : Nat → Prop} {g : Nat} {l : List Tu} (h : IsSc w S g l) (hb : Below w.heap.size w w') : IsSc w' S g l := by
  obtain ⟨v, hl, h1, h2⟩ := h
  exact ⟨v, hl, ⟨h1.t.below hb, h1.on, h1.inv⟩, h2⟩
theorem IsSc.only {T : Nat → Prop} {w w' : World} {S : Nat → Prop} {g : Nat} {l : List Tu} (h : IsSc w S g l) (ho : Only T w w') (ha : Apart S T) : IsSc w' S g l := by
  obtain ⟨v, hl, h1, h2⟩ := h
  exact ⟨v, hl, ⟨h1.t.only ho fun k hk => ha k ((h2 k).2 hk), h1.on, h1.inv⟩, h2⟩
/-- a law's own turns. -/
structure LawS (w0 w : World) (S : Nat → Prop) (g : Nat) (l : List Tu) : Prop where
  sc : IsSc w S g l
  inv : InvT l
  len : l.length ≤ 900
  bel : Below w0.heap.size w0 w
  new : ∀ k, S k → w0.heap.size ≤ k
  there : There w S
/-- behind a call: the list anew, its footprint. -/
structure StepS (w0 w : World) (S : Nat → Prop) (w' : World) (g : Nat) (l' : List Tu) : Prop where
  out : ∃ S', LawS w0 w' S' g l' ∧ Only S w w' ∧ Fresh w S S'
section
variable {w0 w w' : World} {S : Nat → Prop} {g : Nat} {l l' : List Tu}
theorem LawS.quiet (h : LawS w0 w S g l) (hb : Below w.heap.size w w') : LawS w0 w' S g l :=
  ⟨h.sc.below hb, h.inv, h.len, h.bel.trans (hb.mono h.bel.size), h.new, fun k hk => Nat.lt_of_lt_of_le (h.there k hk) hb.size⟩
/-- what another one turns. -/
theorem LawS.only {T : Nat → Prop} (h : LawS w0 w S g l) (ho : Only T w w') (ha : Apart S T) (hn : ∀ k, T k → w0.heap.size ≤ k) : LawS w0 w' S g l :=
  ⟨h.sc.only ho ha, h.inv, h.len, h.bel.trans (ho.below (fun i hi e => by have := hn i e; omega) h.bel.size), h.new, fun k hk => Nat.lt_of_lt_of_le (h.there k hk) ho.size⟩
theorem LawS.made {v' : Value} {hl' : List Int} (hl : l'.length ≤ 900) (hb : Below w0.heap.size w0 w') (hi : ScI w' g v' hl' l') (hn : ∀ k, FootT g v' k → w0.heap.size ≤ k) : LawS w0 w' (FootT g v') g l' :=
  ⟨⟨v', hl', hi, fun _ => Iff.rfl⟩, hi.inv, hl, hb, hn, hi.t.lt⟩
theorem LawS.step {v : Value} (h : LawS w0 w S g l) (h2 : ∀ k, S k ↔ FootT g v k) (hl : l'.length ≤ 900) (e : ScE g v w w' l') : StepS w0 w S w' g l' := by
  obtain ⟨v', hl', h3, h4, h5⟩ := e.out
  refine ⟨FootT g v', LawS.made hl (h.bel.trans (h4.below (fun i hi e => by have := h.new i ((h2 i).2 e); omega) h.bel.size)) h3 fun k hk => ?_, h4.mono fun k _ e => (h2 k).2 e, fun k hk => ?_⟩
  · rcases h5 k hk with e | e
    · exact h.new k ((h2 k).2 e)
    · exact Nat.le_trans h.bel.size e
  · exact (h5 k hk).imp_left (h2 k).2
end
theorem new_l {w0 w : World} (hb : Below w0.heap.size w0 w) : Calls Tryd.prog 9 #[] w fun r w' => ∃ S g, r = .returned (.pointer (some ⟨g, 0, none⟩)) ∧ LawS w0 w' S g [] ∧ Below w.heap.size w w' ∧ (∀ k, S k → w.heap.size ≤ k) := by
  refine (new_tu w).mono ?_
  rintro r w' ⟨rfl, h1, h2⟩
  have h3 : ScI w' w.heap.size (.slice none 0 0) [] [] := ⟨h1.congr (fun a _ => rfl) (fun a _ => rfl), onI_nil, inv_nil⟩
  have h4 : ∀ k, FootT w.heap.size (.slice none 0 0) k → w.heap.size ≤ k := fun k hk => by
    rcases hk with e | e
    · omega
    · cases e
  exact ⟨_, _, rfl, LawS.made (by simp) (hb.trans (h2.mono hb.size)) h3 fun k hk => Nat.le_trans hb.size (h4 k hk), h2, h4⟩
section
variable {w0 w : World} {S : Nat → Prop} {g : Nat} {l : List Tu} {E : Nat → Addr} {T : List Nat}
theorem sent_at (h : LawS w0 w S g l) (hS : Sent w0 E T) {c : Nat} (hc : c ∈ T) : w.cell? ⟨gOf c, 0, none⟩ = some (errP (E c)) := (hS.below h.bel).at_ c hc
theorem add_l (h : LawS w0 w S g l) (hl : l.length ≤ 800) (hS : Sent w0 E T) (h1 : 103 ∈ T) (h2 : 108 ∈ T) (a n : Int) : Calls Tryd.prog 13 #[.pointer (some ⟨g, 0, none⟩), .int .i64 a, .int .i64 n] w fun r w' => r = .returned (errV E (addT l a n).2) ∧ StepS w0 w S w' g (addT l a n).1 := by
  obtain ⟨v, hl', h3, h4⟩ := h.sc
  exact (add_t g v hl' l a n w E h3 (sent_at h hS h1) (sent_at h hS h2)).mono fun _ _ ⟨e1, e2⟩ => ⟨e1, h.step h4 (by have := len_add l a n; omega) e2⟩
theorem del_l (h : LawS w0 w S g l) (hS : Sent w0 E T) (h1 : 107 ∈ T) (a : Int) : Calls Tryd.prog 15 #[.pointer (some ⟨g, 0, none⟩), .int .i64 a] w fun r w' => r = .returned (errV E (delT l a).2) ∧ StepS w0 w S w' g (delT l a).1 := by
  obtain ⟨v, hl', h3, h4⟩ := h.sc
  exact (del_t g v hl' l a w E h3 (sent_at h hS h1)).mono fun _ _ ⟨e1, e2⟩ => ⟨e1, h.step h4 (by have := len_del l a; have := h.len; omega) e2⟩
theorem weigh_l (h : LawS w0 w S g l) (hS : Sent w0 E T) (h1 : 103 ∈ T) (h2 : 107 ∈ T) (a n : Int) : Calls Tryd.prog 17 #[.pointer (some ⟨g, 0, none⟩), .int .i64 a, .int .i64 n] w fun r w' => r = .returned (errV E (weighT l a n).2) ∧ StepS w0 w S w' g (weighT l a n).1 := by
  obtain ⟨v, hl', h3, h4⟩ := h.sc
  exact (weigh_t g v hl' l a n w E h3 (sent_at h hS h1) (sent_at h hS h2)).mono fun _ _ ⟨e1, e2⟩ => ⟨e1, h.step h4 (by rw [len_weigh]; exact h.len) e2⟩
theorem active_l (h : LawS w0 w S g l) (hS : Sent w0 E T) (h1 : 107 ∈ T) (a : Int) (on : Bool) : Calls Tryd.prog 19 #[.pointer (some ⟨g, 0, none⟩), .int .i64 a, .bool on] w fun r w' => r = .returned (errV E (actT l a on).2) ∧ StepS w0 w S w' g (actT l a on).1 := by
  obtain ⟨v, hl', h3, h4⟩ := h.sc
  exact (active_t g v hl' l a on w E h3 (sent_at h hS h1)).mono fun _ _ ⟨e1, e2⟩ => ⟨e1, h.step h4 (by rw [len_act]; exact h.len) e2⟩
theorem charge_l (h : LawS w0 w S g l) (hS : Sent w0 E T) (h1 : 103 ∈ T) (h2 : 107 ∈ T) (a n : Int) : Calls Tryd.prog 21 #[.pointer (some ⟨g, 0, none⟩), .int .i64 a, .int .i64 n] w fun r w' => r = .returned (errV E (chT l a n).2) ∧ StepS w0 w S w' g (chT l a n).1 := by
  obtain ⟨v, hl', h3, h4⟩ := h.sc
  exact (charge_t g v hl' l a n w E h3 (sent_at h hS h1) (sent_at h hS h2)).mono fun _ _ ⟨e1, e2⟩ => ⟨e1, h.step h4 (by rw [len_ch]; exact h.len) e2⟩
theorem order_l (h : LawS w0 w S g l) : Calls Tryd.prog 11 #[.pointer (some ⟨g, 0, none⟩)] w fun r w' => ∃ A c, r = .returned (.slice A (ordI l).length c) ∧ RowB .i64 w' A (ordI l).length (ordI l) ∧ (∀ p, A = some p → w.heap.size ≤ p.block ∧ p.spot = none) ∧ ∃ S', LawS w0 w' S' g l ∧ Only S w w' ∧ Fresh w S S' ∧ (∀ p, A = some p → ¬ S' p.block) := by
  obtain ⟨v, hl', h3, h4⟩ := h.sc
  refine (order_tu g (xT l) (yT l) v hl' w h3.t).mono ?_
  rintro r w' ⟨va, acc, rfl, hR, hp, hs, hf, hb⟩
  obtain rfl := order_is h3.inv h3.on h3.t.nd hp hs
  have hlen := hp.length_eq
  have hfew := h3.t.few
  obtain ⟨A, c, rfl, hc, hn⟩ := hR.form
  refine ⟨A, c, rfl, hR.row (by unfold maxLen; omega) fun u hu => by have := h3.t.aid u (hp.mem_iff.1 hu); omega, fun p hpA => ?_, S, h.quiet hb, Only.of_quiet hb, Fresh.refl _ _, fun p hpA hk => ?_⟩
  · subst hpA
    rcases hR.2 with ⟨e, -⟩ | ⟨g2, o, cap, pre, post, e, -⟩
    · cases e
    · cases e
      exact ⟨hf g2 rfl, rfl⟩
  · subst hpA
    rcases hR.2 with ⟨e, -⟩ | ⟨g2, o, cap, pre, post, e, -⟩
    · cases e
    · cases e
      have h1 := hf g2 rfl
      have h2 := h.there g2 hk
      omega
theorem time_l (h : LawS w0 w S g l) (a : Int) : Calls Tryd.prog 25 #[.pointer (some ⟨g, 0, none⟩), .int .i64 a] w fun r w' => r = .returned (.tuple #[.int .i64 ((timeT l a).1 : Nat), .bool (timeT l a).2]) ∧ LawS w0 w' S g l ∧ Below w.heap.size w w' := by
  obtain ⟨v, hl', h3, h4⟩ := h.sc
  exact (time_t g v hl' l a w h3).mono fun _ _ ⟨e1, e2⟩ => ⟨e1, e2 ▸ h, e2 ▸ Below.refl _ _⟩
theorem clone_l (h : LawS w0 w S g l) : Calls Tryd.prog 10 #[.pointer (some ⟨g, 0, none⟩)] w fun r w' => ∃ S' g', r = .returned (.pointer (some ⟨g', 0, none⟩)) ∧ LawS w0 w' S' g' l ∧ Below w.heap.size w w' ∧ (∀ k, S' k → w.heap.size ≤ k) := by
  obtain ⟨v, hl', h3, h4⟩ := h.sc
  refine (clone_sc g (xT l) (yT l) v hl' w h3.t).mono ?_
  rintro r w' ⟨g', u, rfl, hT, hF, hb⟩
  exact ⟨_, _, rfl, LawS.made h.len (h.bel.trans (hb.mono h.bel.size)) ⟨hT, h3.on, h3.inv⟩ fun k hk => Nat.le_trans h.bel.size (hF k hk), hb, hF⟩
end
end Go.Proofs.YtkmblmnffnhpmaaDoor
