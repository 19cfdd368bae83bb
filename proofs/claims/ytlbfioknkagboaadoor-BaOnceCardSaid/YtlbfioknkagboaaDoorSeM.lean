/-
  A LAW's SESSION: made by it, all of it new; each call in these words.
-/
import Derived.Test.YtlbfioknkagboaaDoorSeL
namespace Go.Proofs.YtlbfioknkagboaaDoor
open Go.ChangeShapes Go.WideShapes Go.ChangeAt Go.RowKit Go.Deep
set_option linter.unusedVariables false
set_option linter.unusedSimpArgs false

structure LawS (w0 w : World) (p : Sp) (s : Sb) : Prop where
  se : IsSe w0.heap.size w p s
  inv : InvB s
  bel : Below w0.heap.size w0 w
/-- what a call may turn. -/
structure StepS (w w' : World) (p p' : Sp) : Prop where
  only : Only (FootS p) w w'
  fresh : ∀ k, FootS p' k → FootS p k ∨ w.heap.size ≤ k
section
variable {w0 w w' w2 : World} {p p' p2 : Sp} {s s' : Sb} {E : Nat → Addr}
theorem LawS.quiet (h : LawS w0 w p s) (hb : Below w.heap.size w w') : LawS w0 w' p s := ⟨h.se.below hb, h.inv, h.bel.trans (hb.mono h.bel.size)⟩
theorem LawS.drewN (h : LawS w0 w p s) (n : Nat) : LawS w0 (w.drewN n) p s := h.quiet (below_drewN (Below.refl _ _) n)
theorem LawS.step (h : LawS w0 w p s) (hs : IsSe w0.heap.size w' p' s') (hi : InvB s') (ho : Only (FootS p) w w') : LawS w0 w' p' s' := ⟨hs, hi, h.bel.trans (ho.below (fun i hi e => by have := (h.se.foot i e).1; omega) h.bel.size)⟩
theorem LawS.tab (h : LawS w0 w p s) (hT : Tab64 w0) : Tab64 w := hT.below h.bel
theorem tab_gt (hT : Tab64 w0) : 5 < w0.heap.size := cell_lt' (hT 0 (by decide))
theorem LawS.sent {S : List Nat} (h : LawS w0 w p s) (hS : Sent w0 E S) : Sent w E S := hS.below h.bel
theorem LawS.foot (h : LawS w0 w p s) : ∀ k, FootS p k → w0.heap.size ≤ k ∧ k < w.heap.size := h.se.foot
theorem StepS.same (h : Only (FootS p) w w') : StepS w w' p p := ⟨h, fun k hk => .inl hk⟩
theorem InvB.turn (h : InvB s) {l : List Fm} {a : Bool} {b c d : Nat} {t : Int} (hn : nums l = nums s.l) : InvB { s with l := l, ask := a, fr := b, vain := c, state := d, token := t } := ⟨h.inv.same hn, h.size, h.retry, h.life⟩
/-- a row of numbers beside it. -/
theorem StepS.row {v : Value} {xs : List Int} (h : StepS w w' p p') (hr : RowN w v xs) (ha : ∀ g, v.ownBlock = some g → ¬ FootS p g) : RowN w' v xs ∧ ∀ g, v.ownBlock = some g → ¬ FootS p' g :=
  ⟨hr.only h.only ha, fun g hg e => by
    rcases h.fresh g e with e2 | e2
    · exact ha g hg e2
    · have := hr.lt g hg; omega⟩

theorem new_l (size retry : Nat) (life : Int) (h1 : 1 ≤ size) (h2 : size ≤ 64) (h3 : retry ≤ 15) (h4 : 1 ≤ life) (h5 : life ≤ 1099511627776) (hB : Below w0.heap.size w0 w) :
    Calls Tryd.prog 11 #[.int .i64 ((size : Nat) : Int), .int .i64 ((retry : Nat) : Int), .int .i64 life] w fun e w' => ∃ p, e = .returned (.tuple #[.pointer (some ⟨p.g, 0, none⟩), .nilIface]) ∧ LawS w0 w' p (newB size retry life) ∧ (∀ k, FootS p k → w.heap.size ≤ k) ∧ Below w.heap.size w w' := by
  refine (newS_any size retry life h1 h2 h3 h4 h5 w.heap.size w (Nat.le_refl _)).mono ?_
  rintro e w1 ⟨p, rfl, hs, hb⟩
  exact ⟨p, rfl, ⟨⟨hs.blk, hs.win, ⟨owns_base hs.row.1 hB.size, hs.row.2⟩, hs.ne, hs.ng, ⟨Nat.le_trans hB.size hs.lo.1, Nat.le_trans hB.size hs.lo.2⟩⟩, invB_new h1 h2 h3 h4 h5, hB.trans (hb.mono hB.size)⟩, fun k hk => (hs.foot k hk).1, hb⟩
def freshB (s : Sb) (pi pf pt pa : Int) (n : Nat) (tl : Int) : Sb := { s with x := nextW s.x, l := s.l ++ [(⟨⟨pi, pf, pt, pa, []⟩, n, 0, tl⟩, false)] }
theorem fresh_l (h : LawS w0 w p s) (hst : s.state ≠ 2) (ha : s.ask = false) (hg : s.x.gv < s.x.sz) (pi pf pt pa now : Int) (h0 : 0 ≤ now) (h1 : now ≤ 1000000000000) (n : Nat) (tl : Int) (hn : nmW s.x s.x.gv = n) (ht : now + s.life = tl) :
    Calls Tryd.prog 15 #[.pointer (some ⟨p.g, 0, none⟩), .agg #[.int .i64 pi, .int .u32 pf, .int .i64 pt, .int .i64 pa, .slice none 0 0], .int .i64 now] w fun e w' => e = .returned (.tuple #[.agg #[.int .i64 pi, .int .u32 pf, .int .i64 pt, .int .i64 pa, .slice none 0 0, .int .i64 ((n : Nat) : Int), .int .i64 0, .int .i64 tl], .nilIface]) ∧ ∃ p', LawS w0 w' p' (freshB s pi pf pt pa n tl) ∧ StepS w w' p p' ∧ p'.g = p.g := by
  subst hn ht
  refine (fresh_ok h.se h.inv hst ha hg pi pf pt pa now h0 h1).mono ?_
  rintro e w1 ⟨rfl, v, hs, ho, hf⟩
  refine ⟨rfl, ⟨p.g, p.gw, v⟩, h.step hs ⟨h.inv.inv.next hg rfl, h.inv.size, h.inv.retry, h.inv.life⟩ ho, ⟨ho, fun k hk => ?_⟩, rfl⟩
  rcases hk with e | e | e
  · exact .inl (.inl e)
  · exact .inl (.inr (.inl e))
  · rcases hf k e with h1 | h1
    · exact .inl (.inr (.inr h1))
    · exact .inr h1
theorem nums_goI {l : List Fm} {xs : List Int} : nums (l.map (goI xs)) = nums l := nums_map fun x => by unfold goI; split <;> rfl
theorem nums_wentT {l : List Fm} {xs : List Int} : nums (wentT l xs) = nums l := by unfold wentT; split; exact nums_goI; rfl
theorem went_l (h : LawS w0 w p s) (hE : Sent w0 E [107, 110]) (A : Option Addr) (m c : Nat) (xs : List Int) (hx : RowB .i64 w A m xs) (hmc : m ≤ c) (hap : ∀ a, A = some a → ¬ FootS p a.block) (hsn : ∀ f ∈ s.l, f.1.sent ≤ 1000000) (k : Nat) (hk : wentC s.l xs = k) (l' : List Fm) (hl : wentT s.l xs = l') :
    Calls Tryd.prog 20 #[.pointer (some ⟨p.g, 0, none⟩), .slice A m c] w fun e w' => e = .returned (errV E k) ∧ LawS w0 w' p { s with l := l' } ∧ StepS w w' p p := by
  subst hk hl
  refine (went_any h.se h.inv E (h.sent hE) A m c xs hx hmc hap hsn).mono ?_
  rintro e w1 ⟨rfl, hs, ho⟩
  exact ⟨rfl, h.step hs (h.inv.turn nums_wentT) ho, StepS.same ho⟩
theorem lost_l (h : LawS w0 w p s) (hf : s.l.any flyP = true) :
    Calls Tryd.prog 23 #[.pointer (some ⟨p.g, 0, none⟩)] w fun e w' => e = .returned .nilIface ∧ LawS w0 w' p { s with l := lostL s.l } ∧ StepS w w' p p := by
  refine (lost_ok h.se h.inv hf).mono ?_
  rintro e w1 ⟨rfl, hs, ho⟩
  exact ⟨rfl, h.step hs (h.inv.turn nums_lost) ho, StepS.same ho⟩
theorem ask_l (h : LawS w0 w p s) (tok : Int) (h0 : 0 ≤ tok) (h1 : tok ≤ 255) (hs : s.state = 1) (hl : s.l = []) (n : Nat) (hn : nmW s.x s.x.gv = n) :
    Calls Tryd.prog 12 #[.pointer (some ⟨p.g, 0, none⟩), .int .i64 tok] w fun e w' => e = .returned (.tuple #[.int .i64 ((n : Nat) : Int), .nilIface]) ∧ LawS w0 w' p { s with state := 2, token := tok } ∧ StepS w w' p p := by
  subst hn
  refine (ask_ok h.se tok h0 h1 hs hl).mono ?_
  rintro e w1 ⟨rfl, hs, ho⟩
  exact ⟨rfl, h.step hs ⟨h.inv.inv, h.inv.size, h.inv.retry, h.inv.life⟩ ho, StepS.same ho⟩
theorem answer_l (h : LawS w0 w p s) (sz : Nat) (hs : s.state = 2) (hl : s.l = []) (h1 : sz ≤ 1023) (tok : Int) (ht : s.token = tok) (z : Nat) (hz : sizeA s sz = z) :
    Calls Tryd.prog 13 #[.pointer (some ⟨p.g, 0, none⟩), .int .i64 tok, .int .i64 0, .int .i64 ((sz : Nat) : Int)] w fun e w' => e = .returned .nilIface ∧ LawS w0 w' p { s with state := 3, x := newW s.x.st z } ∧ StepS w w' p p := by
  subst ht hz
  refine (answer_on h.se h.inv sz hs hl h1).mono ?_
  rintro e w1 ⟨rfl, hs, ho⟩
  have hz : 1 ≤ sizeA s sz ∧ sizeA s sz ≤ 64 := by
    have := h.inv.size
    unfold sizeA
    split <;> omega
  exact ⟨rfl, h.step hs ⟨by rw [show Sb.l { s with state := 3, x := newW s.x.st (sizeA s sz) } = [] from hl]; exact InvX.new h.inv.inv.inv.st hz.1 hz.2, h.inv.size, h.inv.retry, h.inv.life⟩ ho, StepS.same ho⟩
theorem answeroff_l (h : LawS w0 w p s) (st sz : Int) (hs : s.state = 2) (h1 : st ≠ 0) (tok : Int) (ht : s.token = tok) :
    Calls Tryd.prog 13 #[.pointer (some ⟨p.g, 0, none⟩), .int .i64 tok, .int .i64 st, .int .i64 sz] w fun e w' => e = .returned .nilIface ∧ LawS w0 w' p { s with state := 1 } ∧ StepS w w' p p := by
  subst ht
  refine (answer_off h.se st sz hs h1).mono ?_
  rintro e w1 ⟨rfl, hs, ho⟩
  exact ⟨rfl, h.step hs ⟨h.inv.inv, h.inv.size, h.inv.retry, h.inv.life⟩ ho, StepS.same ho⟩
theorem end_l (h : LawS w0 w p s) (hs : s.state ≠ 1) (hl : s.l = []) :
    Calls Tryd.prog 30 #[.pointer (some ⟨p.g, 0, none⟩)] w fun e w' => e = .returned .nilIface ∧ LawS w0 w' p { s with state := 1, x := newW s.x.st 1, ask := false, fr := 0, vain := 0 } ∧ StepS w w' p p := by
  refine (end_ok h.se h.inv hs hl).mono ?_
  rintro e w1 ⟨rfl, hs, ho⟩
  exact ⟨rfl, h.step hs ⟨by rw [show Sb.l { s with state := 1, x := newW s.x.st 1, ask := false, fr := 0, vain := 0 } = [] from hl]; exact InvX.new h.inv.inv.inv.st (by decide) (by decide), h.inv.size, h.inv.retry, h.inv.life⟩ ho, StepS.same ho⟩
theorem invB_bar {s : Sb} (h : InvB s) (d : Bool) : InvB (barC s d) := by
  unfold barC
  split
  · split
    · exact ⟨h.inv, h.size, h.retry, h.life⟩
    · exact ⟨h.inv, h.size, h.retry, h.life⟩
  · exact h
theorem barred_l (h : LawS w0 w p s) (hv : s.vain ≤ 1000) (done : Bool) :
    Calls Tryd.prog 24 #[.pointer (some ⟨p.g, 0, none⟩), .bool done] w fun e w' => e = .returned (.tuple #[]) ∧ LawS w0 w' p (barC s done) ∧ StepS w w' p p := by
  refine (barred_any h.se hv (by have := h.inv.retry; omega) done).mono ?_
  rintro e w1 ⟨rfl, hs, ho⟩
  exact ⟨rfl, h.step hs (invB_bar h.inv done) ho, StepS.same ho⟩
theorem sweep_l (h : LawS w0 w p s) (hT : Tab64 w0) (now : Int) :
    Calls Tryd.prog 16 #[.pointer (some ⟨p.g, 0, none⟩), .int .i64 now] w fun e w' => ∃ A c Au cu p' t, e = .returned (.tuple #[.slice A (toldM (goneP s.retry now) s.l).length c, .slice Au (whyL s.retry now s.l).length cu]) ∧ RowS mpC 8 mp0 w' A (toldM (goneP s.retry now) s.l).length (toldM (goneP s.retry now) s.l) ∧ RowN w' (.slice Au (whyL s.retry now s.l).length cu) (whyL s.retry now s.l) ∧ LawS w0 w' p' t ∧ SweptS s now t ∧ StepS w w' p p' ∧ p'.g = p.g ∧ (toldM (goneP s.retry now) s.l).length ≤ c ∧ (whyL s.retry now s.l).length ≤ cu := by
  refine (sweep_any h.se h.inv (h.tab hT) (tab_gt hT) now).mono ?_
  rintro e w1 ⟨tv, uv, p', t, rfl, htd, hrw, hs, hsw, hg, hgw, ho, hf, -⟩
  have hln : (toldM (goneP s.retry now) s.l).length ≤ 64 := Nat.le_trans told_len h.inv.len
  obtain ⟨A, c, rfl, hrow, hc⟩ := htd.row (d := mp0) mpC_len (by unfold maxLen; omega)
  obtain ⟨Au, cu, rfl, hcu, -⟩ := hrw.form
  refine ⟨A, c, Au, cu, p', t, rfl, hrow, hrw, h.step hs ⟨hsw.inv, by rw [hsw.size]; exact h.inv.size, by rw [hsw.retry]; exact h.inv.retry, by rw [hsw.life]; exact h.inv.life⟩ ho, hsw, ⟨ho, fun k hk => ?_⟩, hg, hc, hcu⟩
  rcases hk with e | e | e
  · exact .inl (.inl (e.trans hg))
  · exact .inl (.inr (.inl (e.trans hgw)))
  · exact .inr (hf k e)
theorem heard_l (h : LawS w0 w p s) (hT : Tab64 w0) (hf : s.l.any flyP = true) (a M : Nat) (ha : a < 4096) (hM : M < 18446744073709551616) (hn : s.l.any (nearP (a : Int)) = true) :
    Calls Tryd.prog 21 #[.pointer (some ⟨p.g, 0, none⟩), .agg #[.int .u8 0, .int .u8 0, .int .u8 0, .int .u8 0, .int .u8 0, .int .u8 0, .int .u8 0, .int .u8 0, .int .u8 0, .int .u8 0, .int .u8 0, .int .u8 0, .int .i64 0, .int .i64 ((a : Nat) : Int), .int .u64 ((M : Nat) : Int)]] w fun e w' => ∃ A c p' x', e = .returned (.tuple #[.slice A (toldM (ackP a M) s.l).length c, .nilIface]) ∧ RowS mpC 8 mp0 w' A (toldM (ackP a M) s.l).length (toldM (ackP a M) s.l) ∧ LawS w0 w' p' { s with x := x', l := lostL (s.l.filter fun f => !ackP a M f) } ∧ x'.sz = s.x.sz ∧ nmW x' x'.gv = nmW s.x s.x.gv ∧ StepS w w' p p' ∧ p'.g = p.g ∧ (toldM (ackP a M) s.l).length ≤ c := by
  refine (heard_ok h.se h.inv (h.tab hT) (tab_gt hT) hf a M ha hM hn).mono ?_
  rintro e w1 ⟨tv, p', x', rfl, htd, hs, hix, hsz, hah, hg, hgw, ho, hf⟩
  have hln : (toldM (ackP a M) s.l).length ≤ 64 := Nat.le_trans told_len h.inv.len
  obtain ⟨A, c, rfl, hrow, hc⟩ := htd.row (d := mp0) mpC_len (by unfold maxLen; omega)
  refine ⟨A, c, p', x', rfl, hrow, h.step hs ⟨hix, h.inv.size, h.inv.retry, h.inv.life⟩ ho, hsz, hah, ⟨ho, fun k hk => ?_⟩, hg, hc⟩
  rcases hk with e | e | e
  · exact .inl (.inl (e.trans hg))
  · exact .inl (.inr (.inl (e.trans hgw)))
  · exact .inr (hf k e)
theorem due_l (h : LawS w0 w p s) : Calls Tryd.prog 18 #[.pointer (some ⟨p.g, 0, none⟩)] w fun e w' => ∃ A c, e = .returned (.slice A (toldM idleP s.l).length c) ∧ RowS mpC 8 mp0 w' A (toldM idleP s.l).length (toldM idleP s.l) ∧ Below w.heap.size w w' := by
  refine (dueS_any h.se h.inv).mono ?_
  rintro e w1 ⟨v, rfl, ho, hb⟩
  obtain ⟨A, c, rfl, hrow, -⟩ := ho.row (d := mp0) mpC_len (by have := Nat.le_trans (@told_len idleP s.l) h.inv.len; unfold maxLen; omega)
  exact ⟨A, c, rfl, hrow, hb⟩
theorem flying_l (h : LawS w0 w p s) : Calls Tryd.prog 19 #[.pointer (some ⟨p.g, 0, none⟩)] w fun e w' => ∃ A c, e = .returned (.slice A (toldM flyP s.l).length c) ∧ RowS mpC 8 mp0 w' A (toldM flyP s.l).length (toldM flyP s.l) ∧ Below w.heap.size w w' := by
  refine (flyingS_any h.se h.inv).mono ?_
  rintro e w1 ⟨v, rfl, ho, hb⟩
  obtain ⟨A, c, rfl, hrow, -⟩ := ho.row (d := mp0) mpC_len (by have := Nat.le_trans (@told_len flyP s.l) h.inv.len; unfold maxLen; omega)
  exact ⟨A, c, rfl, hrow, hb⟩
theorem out_l (h : LawS w0 w p s) : Calls Tryd.prog 25 #[.pointer (some ⟨p.g, 0, none⟩)] w fun e w' => ∃ A c, e = .returned (.slice A s.l.length c) ∧ Below w.heap.size w w' := by
  refine (outS_any h.se h.inv).mono ?_
  rintro e w1 ⟨v, rfl, ho, hb⟩
  have hl : (toldM allP s.l).length = s.l.length := by unfold toldM allP; simp
  obtain ⟨A, c, hv, hrow, -⟩ := ho.row (d := mp0) mpC_len (by have := h.inv.len; rw [hl]; unfold maxLen; omega)
  rw [hl] at hv
  exact ⟨A, c, by rw [hv], hb⟩
theorem room_l (h : LawS w0 w p s) : Calls Tryd.prog 27 #[.pointer (some ⟨p.g, 0, none⟩)] w fun e w' => e = .returned (.int .i64 (((s.x.sz - s.x.gv : Nat)) : Int)) ∧ Below w.heap.size w w' := by
  refine (room_any h.se h.inv).mono ?_
  rintro e w1 ⟨rfl, n, rfl⟩
  exact ⟨rfl, below_drewN (Below.refl _ _) n⟩
theorem bar_l (h : LawS w0 w p s) : Calls Tryd.prog 28 #[.pointer (some ⟨p.g, 0, none⟩)] w fun e w' => e = .returned (.tuple #[.int .i64 ((s.fr : Nat) : Int), .bool s.ask]) ∧ Below w.heap.size w w' := by
  refine (bar_any h.se).mono ?_
  rintro e w1 ⟨rfl, n, rfl⟩
  exact ⟨rfl, below_drewN (Below.refl _ _) n⟩
end
end Go.Proofs.YtlbfioknkagboaaDoor
