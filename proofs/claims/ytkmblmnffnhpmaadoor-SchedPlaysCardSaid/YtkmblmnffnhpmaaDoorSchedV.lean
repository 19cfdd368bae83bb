/-
  Order, that turns nothing that was there; maths of the laws' walks.
-/
import Derived.Test.YtkmblmnffnhpmaaDoorSchedL
namespace Go.Proofs.YtkmblmnffnhpmaaDoor
open Go.ChangeShapes Go.WideShapes Go.ChangeAt Go.RowKit Go.Deep
set_option linter.unusedVariables false
set_option linter.unusedSimpArgs false

section
variable {w0 w : World} {S : Nat → Prop} {g : Nat} {l : List Tu}
theorem order_q (h : LawS w0 w S g l) : Calls Tryd.prog 11 #[.pointer (some ⟨g, 0, none⟩)] w fun r w' => ∃ A c, r = .returned (.slice A (ordI l).length c) ∧ RowB .i64 w' A (ordI l).length (ordI l) ∧ (∀ p, A = some p → w.heap.size ≤ p.block ∧ p.spot = none) ∧ LawS w0 w' S g l ∧ Below w.heap.size w w' := by
  obtain ⟨v, hl', h3, h4⟩ := h.sc
  refine (order_tu g (xT l) (yT l) v hl' w h3.t).mono ?_
  rintro r w' ⟨va, acc, rfl, hR, hp, hs, hf, hb⟩
  obtain rfl := order_is h3.inv h3.on h3.t.nd hp hs
  have hlen := hp.length_eq
  have hfew := h3.t.few
  obtain ⟨A, c, rfl, hc, hn⟩ := hR.form
  refine ⟨A, c, rfl, hR.row (by unfold maxLen; omega) fun u hu => by have := h3.t.aid u (hp.mem_iff.1 hu); omega, fun p hpA => ?_, h.quiet hb, hb⟩
  subst hpA
  rcases hR.2 with ⟨e, -⟩ | ⟨g2, o, cap, pre, post, e, -⟩
  · cases e
  · cases e
    exact ⟨hf g2 rfl, rfl⟩
theorem ordI_len (l : List Tu) : (ordI l).length = (ordN l).length := by unfold ordI ordN; rw [List.length_map]
theorem ordI_at {i : Nat} (hi : i < (ordN l).length) : (ordI l).getD i 0 = ((((ordN l).getD i tu0).aid : Nat) : Int) := by
  have hi' : i < (orderT [] l).length := hi
  unfold ordI ordN
  simp [List.getD, hi']
theorem time_mem (hi : InvT l) {t : Tu} (ht : t ∈ l) : timeT l ((t.aid : Nat) : Int) = (t.tm, true) := by
  obtain ⟨h1, h2⟩ := lu_mem hi ht
  unfold timeT
  rw [if_pos h1, h2]
/-- the time of the one ahead. -/
def lastT (l : List Tu) : Nat → Int
  | 0 => -1
  | i + 1 => ((((ordN l).getD i tu0).tm : Nat) : Int)
end
end Go.Proofs.YtkmblmnffnhpmaaDoor
