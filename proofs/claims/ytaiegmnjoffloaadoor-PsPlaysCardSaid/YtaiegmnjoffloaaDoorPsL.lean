/-
  WHAT A LAW OF CHAPTER 21 CALLS: a Power of its own, told by its model; muezzinlaw21.first.
-/
import Derived.Test.YtaiegmnjoffloaaDoorPsF
import Derived.Test.YtaiegmnjoffloaaDoorNum
namespace Go.Proofs.YtaiegmnjoffloaaDoor
open Go.ChangeShapes Go.WideShapes Go.ChangeAt Go.RowKit Go.Deep
set_option linter.unusedVariables false
set_option linter.unusedSimpArgs false

/-- nobody is there. -/
def X0 : Nat → Nap := fun _ => nap0
theorem zero_cs : blkC (fun _ => cst0) = Tryd.zeroCells31 := by kernel_rfl
theorem zero_ps (w : World) : IsPs (w.alloc (Obj.cells Tryd.zeroCells31 31 (0, 0))) w.heap.size X0 :=
  ⟨fun _ => cst0, by unfold IsCs; rw [zero_cs]; exact (MapKept.heap_alloc w _).1, ⟨invP_0, fun _ => rel_0⟩⟩
/-- a law's own Power. -/
structure LawP (w0 w : World) (g : Nat) (X : Nat → Nap) : Prop where
  ps : IsPs w g X
  bel : Below w0.heap.size w0 w
  new : w0.heap.size ≤ g
theorem LawP.quiet {w0 w w' : World} {g : Nat} {X : Nat → Nap} (h : LawP w0 w g X) (hb : Below w.heap.size w w') : LawP w0 w' g X :=
  ⟨h.ps.below hb, h.bel.trans (hb.mono h.bel.size), h.new⟩
theorem LawP.step {w0 w w' : World} {g : Nat} {X X' : Nat → Nap} (h : LawP w0 w g X) (hg : IsPs w' g X') (ho : Only (· = g) w w') : LawP w0 w' g X' :=
  ⟨hg, h.bel.trans (ho.below (fun i hi e => by have := h.new; omega) h.bel.size), h.new⟩
theorem LawP.made {w0 w : World} (hb : Below w0.heap.size w0 w) : LawP w0 (w.alloc (Obj.cells Tryd.zeroCells31 31 (0, 0))) w.heap.size X0 :=
  ⟨zero_ps w, hb.trans (((Below.refl w.heap.size w).alloc (Nat.le_refl _) _).mono hb.size), hb.size⟩
section
variable {w0 w : World} {g : Nat} {X : Nat → Nap} {E : Nat → Addr} {S : List Nat}
theorem poll_l (h : LawP w0 w g X) (hS : Sent w0 E S) (h107 : 107 ∈ S) (h110 : 110 ∈ S) (a : Int) :
    Calls Tryd.prog 17 #[.pointer (some ⟨g, 0, none⟩), .int .i64 a] w fun e w' => e = .returned (errV E (pollP X a).2) ∧ LawP w0 w' g (pollP X a).1 :=
  (poll_t g X a w E (hS.below h.bel) h107 h110 h.ps).mono fun _ _ ⟨h1, h2, h3⟩ => ⟨h1, h.step h2 h3⟩
theorem close_l (h : LawP w0 w g X) (hS : Sent w0 E S) (h107 : 107 ∈ S) (h110 : 110 ∈ S) (a : Int) :
    Calls Tryd.prog 23 #[.pointer (some ⟨g, 0, none⟩), .int .i64 a] w fun e w' => e = .returned (errV E (closeP X a).2) ∧ LawP w0 w' g (closeP X a).1 :=
  (close_t g X a w E (hS.below h.bel) h107 h110 h.ps).mono fun _ _ ⟨h1, h2, h3⟩ => ⟨h1, h.step h2 h3⟩
theorem doze_l (h : LawP w0 w g X) (hS : Sent w0 E S) (h107 : 107 ∈ S) (a : Int) (on : Bool) :
    Calls Tryd.prog 15 #[.pointer (some ⟨g, 0, none⟩), .int .i64 a, .bool on] w fun e w' => e = .returned (errV E (dozeP X a on).2) ∧ LawP w0 w' g (dozeP X a on).1 :=
  (doze_t g X a on w E (hS.below h.bel) h107 h.ps).mono fun _ _ ⟨h1, h2, h3⟩ => ⟨h1, h.step h2 h3⟩
theorem trig_l (h : LawP w0 w g X) (hS : Sent w0 E S) (h103 : 103 ∈ S) (h107 : 107 ∈ S) (h110 : 110 ∈ S) (a c : Int) :
    Calls Tryd.prog 19 #[.pointer (some ⟨g, 0, none⟩), .int .i64 a, .int .i64 c] w fun e w' => e = .returned (errV E (trigP X a c).2) ∧ LawP w0 w' g (trigP X a c).1 :=
  (trig_t g X a c w E (hS.below h.bel) h103 h107 h110 h.ps).mono fun _ _ ⟨h1, h2, h3⟩ => ⟨h1, h.step h2 h3⟩
theorem sent_l (h : LawP w0 w g X) (hS : Sent w0 E S) (h103 : 103 ∈ S) (h107 : 107 ∈ S) (h110 : 110 ∈ S) (a c : Int) (more : Bool) :
    Calls Tryd.prog 21 #[.pointer (some ⟨g, 0, none⟩), .int .i64 a, .int .i64 c, .bool more] w fun e w' => e = .returned (.tuple #[.bool (sentP X a c more).2.1, errV E (sentP X a c more).2.2]) ∧ LawP w0 w' g (sentP X a c more).1 :=
  (sent_t g X a c more w E (hS.below h.bel) h103 h107 h110 h.ps).mono fun _ _ ⟨h1, h2, h3⟩ => ⟨h1, h.step h2 h3⟩
theorem add_l (h : LawP w0 w g X) (hS : Sent w0 E S) (h103 : 103 ∈ S) (h108 : 108 ∈ S) (a : Int) (u : Nat → Bool) (m : Int) :
    Calls Tryd.prog 11 #[.pointer (some ⟨g, 0, none⟩), .int .i64 a, .agg #[.bool (u 0), .bool (u 1), .bool (u 2), .bool (u 3)], .int .i64 m] w fun e w' => e = .returned (errV E (addP X a u m).2) ∧ LawP w0 w' g (addP X a u m).1 :=
  (add_t g X a u m w E (hS.below h.bel) h103 h108 h.ps).mono fun _ _ ⟨h1, h2, h3⟩ => ⟨h1, h.step h2 h3⟩
theorem may_l (h : LawP w0 w g X) (a c : Int) : Calls Tryd.prog 28 #[.pointer (some ⟨g, 0, none⟩), .int .i64 a, .int .i64 c] w fun e w' => e = .returned (.bool (mayP X a c)) ∧ w = w' := may_t g X a c w h.ps
theorem asl_l (h : LawP w0 w g X) (a : Int) : Calls Tryd.prog 9 #[.pointer (some ⟨g, 0, none⟩), .int .i64 a] w fun e w' => e = .returned (.bool (aslP X a)) ∧ w = w' := asl_t g X a w h.ps
theorem ask_l (h : LawP w0 w g X) (a : Int) : Calls Tryd.prog 26 #[.pointer (some ⟨g, 0, none⟩), .int .i64 a] w fun e w' => e = .returned (.bool (askP X a)) ∧ w = w' := ask_t g X a w h.ps
theorem del_l (h : LawP w0 w g X) (a : Int) : Calls Tryd.prog 13 #[.pointer (some ⟨g, 0, none⟩), .int .i64 a] w fun e w' => e = .returned (.tuple #[]) ∧ LawP w0 w' g (delP X a) :=
  (del_t g X a w h.ps).mono fun _ _ ⟨h1, h2, h3⟩ => ⟨h1, h.step h2 h3⟩
theorem clone_l (h : LawP w0 w g X) : Calls Tryd.prog 8 #[.pointer (some ⟨g, 0, none⟩)] w fun e w' => e = .returned (.pointer (some ⟨w.heap.size, 0, none⟩)) ∧ LawP w0 w' w.heap.size X ∧ Below w.heap.size w w' :=
  (clone_t g X w h.ps).mono fun _ _ ⟨h1, h2, h3⟩ => ⟨h1, ⟨h2, h.bel.trans (h3.mono h.bel.size), h.bel.size⟩, h3⟩
end
set_option maxRecDepth 100000 in
set_option maxHeartbeats 8000000 in
theorem first_any {S : List Nat} (w : World) (E : Nat → Addr) (hS : Sent w E S) (h103 : 103 ∈ S) (h107 : 107 ∈ S) (h108 : 108 ∈ S) : Calls Tryd.prog 7 #[] w fun e w' => e = .returned (.bool true) ∧ Below w.heap.size w w' := by
  have HS := Shut.mk hS
  have HL := Shut.mk (LawP.made (Below.refl w.heap.size w))
  obtain ⟨g, hg⟩ : ∃ g, g = w.heap.size := ⟨_, rfl⟩
  rw [← hg] at HL
  have HGN := Shut.mk hg
  obtain ⟨w1, hw1⟩ : ∃ w1, w1 = w.alloc (Obj.cells Tryd.zeroCells31 31 (0, 0)) := ⟨_, rfl⟩
  rw [← hw1] at HL
  have HW1 := Shut.mk hw1.symm
  have e1 := Shut.mk (show (addP X0 1 (fun _ => false) 0).2 = 0 by decide)
  have e2 := Shut.mk (show (dozeP (addP X0 1 (fun _ => false) 0).1 1 true).2 = 0 by decide)
  have e3 := Shut.mk (show mayP (dozeP (addP X0 1 (fun _ => false) 0).1 1 true).1 1 0 = false by decide)
  have e4 := Shut.mk (show aslP (dozeP (addP X0 1 (fun _ => false) 0).1 1 true).1 1 = true by decide)
  generalize X0 = x0 at *
  clear hS hg hw1
  go_enter Tryd.func7, Tryd.ntmps7
  go_upto_region 2 with (fail)
  rw [HW1.out, ← HGN.out]
  clear HW1 HGN
  go_wp2_with (fail)
  refine (add_l HL.out HS.out h103 h108 1 (fun _ => false) 0).mono ?_
  rintro x w2 ⟨rfl, hl⟩
  rw [e1.out, errV_zero]
  have HLn := Shut.mk hl
  clear hl HL
  have HL := HLn
  clear HLn
  go_wp2_with (fail)
  refine (doze_l HL.out HS.out h107 1 true).mono ?_
  rintro x w3 ⟨rfl, hl⟩
  rw [e2.out, errV_zero]
  have HLn := Shut.mk hl
  clear hl HL
  have HL := HLn
  clear HLn
  go_wp2_with (fail)
  refine (may_l HL.out 1 0).mono ?_
  rintro x wn ⟨rfl, rfl⟩
  rw [e3.out]
  go_wp2_with (fail)
  refine (asl_l HL.out 1).mono ?_
  rintro x wn ⟨rfl, rfl⟩
  rw [e4.out]
  go_wp2_with (fail)
  go_ret
  exact ⟨rfl, HL.out.bel⟩
end Go.Proofs.YtaiegmnjoffloaaDoor
