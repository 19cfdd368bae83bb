/-
  PsPlays: the code's Power, the reference's, a copy, the law's block side by side; one wrapper a call.
-/
import Derived.Test.YtaiegmnjoffloaaDoorPsL
import Derived.Test.YtaiegmnjoffloaaDoorPsV
import Derived.Test.YtaiegmnjoffloaaDoorPsU
namespace Go.Proofs.YtaiegmnjoffloaaDoor
open Go.ChangeShapes Go.WideShapes Go.ChangeAt Go.RowKit Go.Deep
set_option linter.unusedVariables false
set_option linter.unusedSimpArgs false

theorem zero_rp : blkP X0 = Tryd.zeroCells37 := by kernel_rfl
/-- the code's and the reference's alone. -/
structure PlP (w0 w : World) (g h : Nat) (X Y : Nat → Nap) : Prop where
  law : LawP w0 w g X
  rp : IsRp w h Y
  hn : w0.heap.size ≤ h
  ne : g ≠ h
/-- the copy at c, the law's own block at gd beside them. -/
structure PlD (w0 w : World) (g h c gd : Nat) (X Y Z : Nat → Nap) (o : Obj) : Prop where
  pw : PlP w0 w g h X Y
  cl : IsPs w c Z
  db : w.heap[gd]? = some o
  na : c ≠ g ∧ c ≠ h ∧ gd ≠ g ∧ gd ≠ h
section
variable {w0 w w' : World} {g h c gd : Nat} {X X' Y Y' Z : Nat → Nap} {o : Obj} {E : Nat → Addr} {S : List Nat}
theorem PlP.quiet (p : PlP w0 w g h X Y) (hb : Below w.heap.size w w') : PlP w0 w' g h X Y := ⟨p.law.quiet hb, p.rp.below hb, p.hn, p.ne⟩
theorem PlP.code (p : PlP w0 w g h X Y) (hp : IsPs w' g X') (ho : Only (· = g) w w') : PlP w0 w' g h X' Y := ⟨p.law.step hp ho, p.rp.only ho fun e => p.ne e.symm, p.hn, p.ne⟩
theorem PlP.ref (p : PlP w0 w g h X Y) (hp : IsRp w' h Y') (ho : Only (· = h) w w') : PlP w0 w' g h X Y' :=
  ⟨⟨p.law.ps.only ho p.ne, p.law.bel.trans (ho.below (fun i hi e => by have := p.hn; omega) p.law.bel.size), p.law.new⟩, hp, p.hn, p.ne⟩
theorem PlD.quiet (p : PlD w0 w g h c gd X Y Z o) (hb : Below w.heap.size w w') : PlD w0 w' g h c gd X Y Z o := ⟨p.pw.quiet hb, p.cl.below hb, (hb.block _ (lt_blk p.db)).trans p.db, p.na⟩
theorem PlD.code (p : PlD w0 w g h c gd X Y Z o) (hp : IsPs w' g X') (ho : Only (· = g) w w') : PlD w0 w' g h c gd X' Y Z o := ⟨p.pw.code hp ho, p.cl.only ho p.na.1, ho.at_ p.db p.na.2.2.1, p.na⟩
theorem PlD.ref (p : PlD w0 w g h c gd X Y Z o) (hp : IsRp w' h Y') (ho : Only (· = h) w w') : PlD w0 w' g h c gd X Y' Z o := ⟨p.pw.ref hp ho, p.cl.only ho p.na.2.1, ho.at_ p.db p.na.2.2.2, p.na⟩
theorem PlD.bel (p : PlD w0 w g h c gd X Y Z o) : Below w0.heap.size w0 w := p.pw.law.bel
/-- begun: the law's block first, a copy behind it. -/
theorem PlP.begin {w1 w2 : World} (p : PlP w0 w g h X Y) (hb1 : Below w.heap.size w w1) (hgd : w1.heap[gd]? = some o) (hgn : w.heap.size ≤ gd) (hz : IsPs w2 w1.heap.size Z) (hb2 : Below w1.heap.size w1 w2) : PlD w0 w2 g h w1.heap.size gd X Y Z o := by
  have s1 := hb1.size
  have l1 := p.law.ps.lt
  have l2 := lt_blk p.rp
  exact ⟨(p.quiet hb1).quiet hb2, hz, (hb2.block gd (lt_blk hgd)).trans hgd, by omega, by omega, by omega, by omega⟩
theorem poll_c (p : PlD w0 w g h c gd X Y Z o) (hS : Sent w0 E S) (h107 : 107 ∈ S) (h110 : 110 ∈ S) (a : Int) :
    Calls Tryd.prog 17 #[.pointer (some ⟨g, 0, none⟩), .int .i64 a] w fun e w' => e = .returned (errV E (pollP X a).2) ∧ PlD w0 w' g h c gd (pollP X a).1 Y Z o :=
  (poll_t g X a w E (hS.below p.bel) h107 h110 p.pw.law.ps).mono fun _ _ ⟨h1, h2, h3⟩ => ⟨h1, p.code h2 h3⟩
theorem close_c (p : PlD w0 w g h c gd X Y Z o) (hS : Sent w0 E S) (h107 : 107 ∈ S) (h110 : 110 ∈ S) (a : Int) :
    Calls Tryd.prog 23 #[.pointer (some ⟨g, 0, none⟩), .int .i64 a] w fun e w' => e = .returned (errV E (closeP X a).2) ∧ PlD w0 w' g h c gd (closeP X a).1 Y Z o :=
  (close_t g X a w E (hS.below p.bel) h107 h110 p.pw.law.ps).mono fun _ _ ⟨h1, h2, h3⟩ => ⟨h1, p.code h2 h3⟩
theorem doze_c (p : PlD w0 w g h c gd X Y Z o) (hS : Sent w0 E S) (h107 : 107 ∈ S) (a : Int) (on : Bool) :
    Calls Tryd.prog 15 #[.pointer (some ⟨g, 0, none⟩), .int .i64 a, .bool on] w fun e w' => e = .returned (errV E (dozeP X a on).2) ∧ PlD w0 w' g h c gd (dozeP X a on).1 Y Z o :=
  (doze_t g X a on w E (hS.below p.bel) h107 p.pw.law.ps).mono fun _ _ ⟨h1, h2, h3⟩ => ⟨h1, p.code h2 h3⟩
theorem trig_c (p : PlD w0 w g h c gd X Y Z o) (hS : Sent w0 E S) (h103 : 103 ∈ S) (h107 : 107 ∈ S) (h110 : 110 ∈ S) (a c2 : Int) :
    Calls Tryd.prog 19 #[.pointer (some ⟨g, 0, none⟩), .int .i64 a, .int .i64 c2] w fun e w' => e = .returned (errV E (trigP X a c2).2) ∧ PlD w0 w' g h c gd (trigP X a c2).1 Y Z o :=
  (trig_t g X a c2 w E (hS.below p.bel) h103 h107 h110 p.pw.law.ps).mono fun _ _ ⟨h1, h2, h3⟩ => ⟨h1, p.code h2 h3⟩
theorem sent_c (p : PlD w0 w g h c gd X Y Z o) (hS : Sent w0 E S) (h103 : 103 ∈ S) (h107 : 107 ∈ S) (h110 : 110 ∈ S) (a c2 : Int) (more : Bool) :
    Calls Tryd.prog 21 #[.pointer (some ⟨g, 0, none⟩), .int .i64 a, .int .i64 c2, .bool more] w fun e w' => e = .returned (.tuple #[.bool (sentP X a c2 more).2.1, errV E (sentP X a c2 more).2.2]) ∧ PlD w0 w' g h c gd (sentP X a c2 more).1 Y Z o :=
  (sent_t g X a c2 more w E (hS.below p.bel) h103 h107 h110 p.pw.law.ps).mono fun _ _ ⟨h1, h2, h3⟩ => ⟨h1, p.code h2 h3⟩
theorem add_c (p : PlD w0 w g h c gd X Y Z o) (hS : Sent w0 E S) (h103 : 103 ∈ S) (h108 : 108 ∈ S) (a : Int) (u : Nat → Bool) (m : Int) :
    Calls Tryd.prog 11 #[.pointer (some ⟨g, 0, none⟩), .int .i64 a, .agg #[.bool (u 0), .bool (u 1), .bool (u 2), .bool (u 3)], .int .i64 m] w fun e w' => e = .returned (errV E (addP X a u m).2) ∧ PlD w0 w' g h c gd (addP X a u m).1 Y Z o :=
  (add_t g X a u m w E (hS.below p.bel) h103 h108 p.pw.law.ps).mono fun _ _ ⟨h1, h2, h3⟩ => ⟨h1, p.code h2 h3⟩
theorem del_c (p : PlD w0 w g h c gd X Y Z o) (a : Int) : Calls Tryd.prog 13 #[.pointer (some ⟨g, 0, none⟩), .int .i64 a] w fun e w' => e = .returned (.tuple #[]) ∧ PlD w0 w' g h c gd (delP X a) Y Z o :=
  (del_t g X a w p.pw.law.ps).mono fun _ _ ⟨h1, h2, h3⟩ => ⟨h1, p.code h2 h3⟩
theorem poll_r (p : PlD w0 w g h c gd X Y Z o) (a : Int) :
    Calls Tryd.prog 18 #[.pointer (some ⟨h, 0, none⟩), .int .i64 a] w fun e w' => e = .returned (.int .i64 ((pollP Y a).2 : Nat)) ∧ PlD w0 w' g h c gd X (pollP Y a).1 Z o :=
  (rpoll_t h Y a w p.pw.rp).mono fun _ _ ⟨h1, h2, h3⟩ => ⟨h1, p.ref h2 h3⟩
theorem close_r (p : PlD w0 w g h c gd X Y Z o) (a : Int) :
    Calls Tryd.prog 24 #[.pointer (some ⟨h, 0, none⟩), .int .i64 a] w fun e w' => e = .returned (.int .i64 ((closeP Y a).2 : Nat)) ∧ PlD w0 w' g h c gd X (closeP Y a).1 Z o :=
  (rclose_t h Y a w p.pw.rp).mono fun _ _ ⟨h1, h2, h3⟩ => ⟨h1, p.ref h2 h3⟩
theorem doze_r (p : PlD w0 w g h c gd X Y Z o) (a : Int) (on : Bool) :
    Calls Tryd.prog 16 #[.pointer (some ⟨h, 0, none⟩), .int .i64 a, .bool on] w fun e w' => e = .returned (.int .i64 ((dozeP Y a on).2 : Nat)) ∧ PlD w0 w' g h c gd X (dozeP Y a on).1 Z o :=
  (rdoze_t h Y a on w p.pw.rp).mono fun _ _ ⟨h1, h2, h3⟩ => ⟨h1, p.ref h2 h3⟩
theorem trig_r (p : PlD w0 w g h c gd X Y Z o) (a c2 : Int) :
    Calls Tryd.prog 20 #[.pointer (some ⟨h, 0, none⟩), .int .i64 a, .int .i64 c2] w fun e w' => e = .returned (.int .i64 ((trigP Y a c2).2 : Nat)) ∧ PlD w0 w' g h c gd X (trigP Y a c2).1 Z o :=
  (rtrig_t h Y a c2 w p.pw.rp).mono fun _ _ ⟨h1, h2, h3⟩ => ⟨h1, p.ref h2 h3⟩
theorem sent_r (p : PlD w0 w g h c gd X Y Z o) (hi : InvP Y) (a c2 : Int) (more : Bool) :
    Calls Tryd.prog 22 #[.pointer (some ⟨h, 0, none⟩), .int .i64 a, .int .i64 c2, .bool more] w fun e w' => e = .returned (.tuple #[.bool (sentP Y a c2 more).2.1, .int .i64 ((sentP Y a c2 more).2.2 : Nat)]) ∧ PlD w0 w' g h c gd X (sentP Y a c2 more).1 Z o :=
  (rsent_t h Y a c2 more w p.pw.rp hi).mono fun _ _ ⟨h1, h2, h3⟩ => ⟨h1, p.ref h2 h3⟩
theorem add_r (p : PlD w0 w g h c gd X Y Z o) (a : Int) (u : Nat → Bool) (m : Int) :
    Calls Tryd.prog 12 #[.pointer (some ⟨h, 0, none⟩), .int .i64 a, .agg #[.bool (u 0), .bool (u 1), .bool (u 2), .bool (u 3)], .int .i64 m] w fun e w' => e = .returned (.int .i64 ((addP Y a u m).2 : Nat)) ∧ PlD w0 w' g h c gd X (addP Y a u m).1 Z o :=
  (radd_t h Y a m u w p.pw.rp).mono fun _ _ ⟨h1, h2, h3⟩ => ⟨h1, p.ref h2 h3⟩
theorem del_r (p : PlD w0 w g h c gd X Y Z o) (a : Int) : Calls Tryd.prog 14 #[.pointer (some ⟨h, 0, none⟩), .int .i64 a] w fun e w' => e = .returned (.tuple #[]) ∧ PlD w0 w' g h c gd X (delP Y a) Z o :=
  (rdel_t h Y a w p.pw.rp).mono fun _ _ ⟨h1, h2, h3⟩ => ⟨h1, p.ref h2 h3⟩
end
theorem codes_poll (X : Nat → Nap) (a : Int) : ((pollP X a).2) = 0 ∨ ((pollP X a).2) ∈ S14 := by
  unfold pollP
  split
  · show (pollN _).2 = 0 ∨ (pollN _).2 ∈ S14
    unfold pollN
    split
    · exact .inr (show 110 ∈ S14 by decide)
    · exact .inl rfl
  · exact .inr (show 107 ∈ S14 by decide)
theorem codes_close (X : Nat → Nap) (a : Int) : ((closeP X a).2) = 0 ∨ ((closeP X a).2) ∈ S14 := by
  unfold closeP
  split
  · show (closeN _).2 = 0 ∨ (closeN _).2 ∈ S14
    unfold closeN
    split
    · exact .inl rfl
    · exact .inr (show 110 ∈ S14 by decide)
  · exact .inr (show 107 ∈ S14 by decide)
theorem codes_doze (X : Nat → Nap) (a : Int) (on : Bool) : ((dozeP X a on).2) = 0 ∨ ((dozeP X a on).2) ∈ S14 := by
  unfold dozeP
  split
  · exact .inl rfl
  · exact .inr (show 107 ∈ S14 by decide)
theorem codes_trig (X : Nat → Nap) (a c : Int) : ((trigP X a c).2) = 0 ∨ ((trigP X a c).2) ∈ S14 := by
  unfold trigP
  split
  · split
    · show (trigN _ _).2 = 0 ∨ (trigN _ _).2 ∈ S14
      unfold trigN
      split
      · exact .inr (show 110 ∈ S14 by decide)
      · exact .inl rfl
    · exact .inr (show 103 ∈ S14 by decide)
  · exact .inr (show 107 ∈ S14 by decide)
theorem codes_add (X : Nat → Nap) (a : Int) (u : Nat → Bool) (m : Int) : ((addP X a u m).2) = 0 ∨ ((addP X a u m).2) ∈ S14 := by
  unfold addP
  split
  · split
    · exact .inr (show 108 ∈ S14 by decide)
    · exact .inl rfl
  · exact .inr (show 103 ∈ S14 by decide)
theorem codes_sent (X : Nat → Nap) (a c : Int) (more : Bool) : ((sentP X a c more).2.2) = 0 ∨ ((sentP X a c more).2.2) ∈ S14 := by
  unfold sentP
  split
  · split
    · split
      · exact .inl rfl
      · exact .inr (show 110 ∈ S14 by decide)
    · exact .inr (show 103 ∈ S14 by decide)
  · exact .inr (show 107 ∈ S14 by decide)
theorem mid4 {w : World} {g o : Nat} {t : TypeId} {fr : Nat × Nat} {l cs : List Value} (hh : w.heap[g]? = some (.cells l.toArray t fr)) (hl : ∀ j v, cs[j]? = some v → l[o + j]? = some v) : w.rangeAt g o cs := fun j v hv => by
  rw [cell_of_row w g (o + j) _ t fr hh]
  simpa using hl j v hv
end Go.Proofs.YtaiegmnjoffloaaDoor
