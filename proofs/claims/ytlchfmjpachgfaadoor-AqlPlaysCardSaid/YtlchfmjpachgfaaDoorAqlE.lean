/-
  WHAT A LAW OF CHAPTER 19 CALLS: a limit of its own, told by its model; muezzinlaw19.first.
-/
import Derived.Test.YtlchfmjpachgfaaDoorAqlC
namespace Go.Proofs.YtlchfmjpachgfaaDoor
open Go.ChangeShapes Go.WideShapes Go.ChangeAt Go.RowKit Go.Deep
set_option linter.unusedVariables false
set_option linter.unusedSimpArgs false


theorem inv_addA {q : Aq} (h : InvA q) (a n : Int) : InvA (addA q a n).1 := by
  unfold addA
  split
  · rename_i e
    have h1 := ofA_nonneg h a
    have h2 : 0 ≤ n ∧ n ≤ 1099511627776 := by have := e.2; unfold airB at this; simpa using this
    exact invA_put h e.1 (by omega)
  · exact h
theorem all_addA {q : Aq} (h : InvA q) (a n : Int) : allA (addA q a n).1 ≤ allA q + 1099511627776 := by
  unfold addA
  split
  · rename_i e
    have h2 : 0 ≤ n ∧ n ≤ 1099511627776 := by have := e.2; unfold airB at this; simpa using this
    rw [allA_put h e.1]
    omega
  · show allA q ≤ _; omega
theorem inv_subA {q : Aq} (h : InvA q) (a n : Int) : InvA (subA q a n).1 := by
  unfold subA
  split
  · rename_i e
    split
    · exact h
    · exact invA_put h e.1 (by omega)
  · exact h
theorem all_subA {q : Aq} (h : InvA q) (a n : Int) : allA (subA q a n).1 ≤ allA q := by
  unfold subA
  split
  · rename_i e
    have h2 : 0 ≤ n ∧ n ≤ 1099511627776 := by have := e.2; unfold airB at this; simpa using this
    split
    · exact Int.le_refl _
    · rw [allA_put h e.1]
      omega
  · exact Int.le_refl _
theorem inv_clearA {q : Aq} (h : InvA q) (a : Int) : InvA (clearA q a) := by
  unfold clearA
  split
  · rename_i e
    exact invA_put h e (Int.le_refl _)
  · exact h
theorem all_clearA {q : Aq} (h : InvA q) (a : Int) : allA (clearA q a) ≤ allA q := by
  unfold clearA
  split
  · rename_i e
    have := ofA_nonneg h a
    rw [allA_put h e]
    omega
  · exact Int.le_refl _
/-- a law's own limit. -/
structure LawA (w0 w : World) (g : Nat) (q : Aq) : Prop where
  aq : IsAq w g q
  inv : InvA q
  all : allA q ≤ 4611686018427387904
  bel : Below w0.heap.size w0 w
  new : w0.heap.size ≤ g
theorem LawA.quiet {w0 w w' : World} {g : Nat} {q : Aq} (h : LawA w0 w g q) (hb : Below w.heap.size w w') : LawA w0 w' g q :=
  ⟨h.aq.below hb, h.inv, h.all, h.bel.trans (hb.mono h.bel.size), h.new⟩
theorem LawA.step {w0 w w' : World} {g : Nat} {q q' : Aq} (h : LawA w0 w g q) (hg : IsAq w' g q') (hi : InvA q') (ha : allA q' ≤ 4611686018427387904) (ho : Only (· = g) w w') : LawA w0 w' g q' :=
  ⟨hg, hi, ha, h.bel.trans (ho.below (fun i hi e => by have := h.new; omega) h.bel.size), h.new⟩
theorem new_l {w0 w : World} (hb : Below w0.heap.size w0 w) (st wh : Int) (h1 : airB st = true) (h2 : airB wh = true) :
    Calls Tryd.prog 7 #[.int .i64 st, .int .i64 wh] w fun r w' => r = .returned (.tuple #[.pointer (some ⟨w.heap.size, 0, none⟩), .nilIface]) ∧ LawA w0 w' w.heap.size (newA st wh) :=
  (new_ok st wh w h1 h2).mono fun _ _ ⟨h1, h2, h3⟩ => ⟨h1, ⟨h2, invA_new _ _, by rw [allA_new]; decide, hb.trans (h3.mono hb.size), hb.size⟩⟩
section
variable {w0 w : World} {g : Nat} {q : Aq}
theorem may_l (h : LawA w0 w g q) (n : Int) : Calls Tryd.prog 16 #[.pointer (some ⟨g, 0, none⟩), .int .i64 n] w fun r w' => r = .returned (.bool (mayA q n)) ∧ LawA w0 w' g q :=
  (may_any g q n w h.aq h.inv h.all).mono fun _ _ ⟨h1, h2⟩ => ⟨h1, h.quiet h2⟩
theorem of_l (h : LawA w0 w g q) (n : Int) : Calls Tryd.prog 18 #[.pointer (some ⟨g, 0, none⟩), .int .i64 n] w fun r w' => r = .returned (.int .i64 (ofA q n)) ∧ LawA w0 w' g q :=
  (of_any g q n w h.aq h.inv h.all).mono fun _ _ ⟨h1, h2⟩ => ⟨h1, h.quiet h2⟩
theorem all_l (h : LawA w0 w g q) : Calls Tryd.prog 10 #[.pointer (some ⟨g, 0, none⟩)] w fun r w' => r = .returned (.int .i64 (allA q)) ∧ LawA w0 w' g q :=
  (all_any g q w h.aq h.inv h.all).mono fun _ _ ⟨h1, h2⟩ => ⟨h1, h.quiet h2⟩
theorem add_l {E : Nat → Addr} {S : List Nat} (h : LawA w0 w g q) (hS : Sent w0 E S) (h3 : 103 ∈ S) (a n : Int) (hs : allA (addA q a n).1 ≤ 4611686018427387904) :
    Calls Tryd.prog 11 #[.pointer (some ⟨g, 0, none⟩), .int .i64 a, .int .i64 n] w fun r w' => r = .returned (errV E (addA q a n).2) ∧ LawA w0 w' g (addA q a n).1 :=
  (add_any g q a n w E (hS.below h.bel) h3 h.aq h.inv h.all).mono fun _ _ ⟨h1, h2, h3⟩ => ⟨h1, h.step h2 (inv_addA h.inv a n) hs h3⟩
theorem sub_l {E : Nat → Addr} {S : List Nat} (h : LawA w0 w g q) (hS : Sent w0 E S) (h3 : 103 ∈ S) (h10 : 110 ∈ S) (a n : Int) :
    Calls Tryd.prog 13 #[.pointer (some ⟨g, 0, none⟩), .int .i64 a, .int .i64 n] w fun r w' => r = .returned (errV E (subA q a n).2) ∧ LawA w0 w' g (subA q a n).1 :=
  (sub_any g q a n w E (hS.below h.bel) h3 h10 h.aq h.inv h.all).mono fun _ _ ⟨h1, h2, h3⟩ => ⟨h1, h.step h2 (inv_subA h.inv a n) (Int.le_trans (all_subA h.inv a n) h.all) h3⟩
theorem clear_l (h : LawA w0 w g q) (a : Int) : Calls Tryd.prog 15 #[.pointer (some ⟨g, 0, none⟩), .int .i64 a] w fun r w' => r = .returned (.tuple #[]) ∧ LawA w0 w' g (clearA q a) :=
  (clear_any g q a w h.aq h.inv).mono fun _ _ ⟨h1, h2, h3⟩ => ⟨h1, h.step h2 (inv_clearA h.inv a) (Int.le_trans (all_clearA h.inv a) h.all) h3⟩
end
set_option maxRecDepth 100000 in
set_option maxHeartbeats 8000000 in
theorem first_any {S : List Nat} (w : World) (E : Nat → Addr) (hS : Sent w E S) (h3 : 103 ∈ S) : Calls Tryd.prog 6 #[] w fun e w' => e = .returned (.bool true) ∧ Below w.heap.size w w' := by
  have HN := Shut.mk (new_l (Below.refl w.heap.size w) 10 20 (by decide) (by decide))
  have HS := Shut.mk hS
  have e1 := Shut.mk (show mayA (newA 10 20) 1 = true by decide)
  have e2 := Shut.mk (show (addA (newA 10 20) 1 10).2 = 0 by decide)
  have e3 := Shut.mk (show mayA (addA (newA 10 20) 1 10).1 1 = false by decide)
  have e4 := Shut.mk (show allA (addA (newA 10 20) 1 10).1 ≤ 4611686018427387904 by decide)
  generalize newA 10 20 = q0 at *
  clear hS
  go_enter Tryd.func6, Tryd.ntmps6
  go_wp2_with (fail)
  refine HN.out.mono ?_
  rintro x w1 ⟨rfl, h⟩
  have HL := Shut.mk h
  clear h
  go_wp2_with (fail)
  refine (may_l HL.out 1).mono ?_
  rintro x w2 ⟨rfl, h⟩
  have HL2 := Shut.mk h
  rw [e1.out]
  clear h
  go_wp2_with (fail)
  refine (add_l HL2.out HS.out h3 1 10 e4.out).mono ?_
  rintro x w3 ⟨rfl, h⟩
  have HL3 := Shut.mk h
  rw [e2.out, errV_zero]
  clear h
  go_wp2_with (fail)
  refine (may_l HL3.out 1).mono ?_
  rintro x w4 ⟨rfl, h⟩
  have HL4 := Shut.mk h.bel
  rw [e3.out]
  clear h
  go_wp2_with (fail)
  go_ret
  exact ⟨rfl, HL4.out⟩
end Go.Proofs.YtlchfmjpachgfaaDoor
