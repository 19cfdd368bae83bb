/-
  SchedPlays: the code's turns, the reference's, a copy, the law's block and its row side by side; one wrapper a call.
-/
import Derived.Test.YtkmblmnffnhpmaaDoorSchedV
namespace Go.Proofs.YtkmblmnffnhpmaaDoor
open Go.ChangeShapes Go.WideShapes Go.ChangeAt Go.RowKit Go.Deep
set_option linter.unusedVariables false
set_option linter.unusedSimpArgs false

/-- what lies beside: the copy at c, the law's block at gd, the row at A. -/
structure PlS (w0 wx : World) (g h c gd : Nat) (l p z : List Tu) (A : Option Addr) (o : Obj) (S : Nat → Prop) (v : Value) (Z : Nat → Prop) : Prop where
  sc : LawS w0 wx S g l
  rs : IsRs w0.heap.size wx h v p
  cl : LawS w0 wx Z c z
  sr : Apart S (FootR h v)
  sz : Apart S Z
  rz : Apart (FootR h v) Z
  ng : ¬ S gd ∧ ¬ FootR h v gd
  aa : ∀ q, A = some q → q.block < wx.heap.size ∧ ¬ S q.block ∧ ¬ FootR h v q.block
  db : wx.heap[gd]? = some o
  row : RowB .i64 wx A (ordI z).length (ordI z)
structure PlD (w0 wx : World) (g h c gd : Nat) (l p z : List Tu) (A : Option Addr) (o : Obj) : Prop where
  out : ∃ S v Z, PlS w0 wx g h c gd l p z A o S v Z
/-- the code's and the reference's alone. -/
structure PlA (w0 wx : World) (g h : Nat) (l : List Tu) : Prop where
  out : ∃ S v, LawS w0 wx S g l ∧ IsRs w0.heap.size wx h v l ∧ Apart S (FootR h v)
section
variable {w0 w w' : World} {g h c gd : Nat} {l l' p p' z : List Tu} {A : Option Addr} {o : Obj} {E : Nat → Addr} {T : List Nat} {S Z : Nat → Prop} {v : Value}
theorem PlA.bel (x : PlA w0 w g h l) : Below w0.heap.size w0 w := by obtain ⟨S, v, h1, -⟩ := x.out; exact h1.bel
theorem PlA.inv (x : PlA w0 w g h l) : InvT l := by obtain ⟨S, v, h1, -⟩ := x.out; exact h1.inv
theorem PlA.quiet (x : PlA w0 w g h l) (hb : Below w.heap.size w w') : PlA w0 w' g h l := by
  obtain ⟨S, v, h1, h2, h3⟩ := x.out
  exact ⟨S, v, h1.quiet hb, h2.below hb, h3⟩
theorem PlD.bel (x : PlD w0 w g h c gd l p z A o) : Below w0.heap.size w0 w := by obtain ⟨S, v, Z, y⟩ := x.out; exact y.sc.bel
theorem PlD.inv (x : PlD w0 w g h c gd l p z A o) : InvT l := by obtain ⟨S, v, Z, y⟩ := x.out; exact y.sc.inv
theorem PlD.db (x : PlD w0 w g h c gd l p z A o) : w.heap[gd]? = some o := by obtain ⟨S, v, Z, y⟩ := x.out; exact y.db
theorem PlD.row (x : PlD w0 w g h c gd l p z A o) : RowB .i64 w A (ordI z).length (ordI z) := by obtain ⟨S, v, Z, y⟩ := x.out; exact y.row
theorem PlD.two (x : PlD w0 w g h c gd l l z A o) : PlA w0 w g h l := by
  obtain ⟨S, v, Z, y⟩ := x.out
  exact ⟨S, v, y.sc, y.rs, y.sr⟩
theorem PlD.quiet (x : PlD w0 w g h c gd l p z A o) (hb : Below w.heap.size w w') : PlD w0 w' g h c gd l p z A o := by
  obtain ⟨S, v, Z, y⟩ := x.out
  exact ⟨S, v, Z, { y with sc := y.sc.quiet hb, rs := y.rs.below hb, cl := y.cl.quiet hb, aa := fun q e => ⟨Nat.lt_of_lt_of_le (y.aa q e).1 hb.size, (y.aa q e).2⟩, db := (hb.block gd (lt_blk y.db)).trans y.db, row := y.row.below hb }⟩
/-- a call on the code's turns. -/
theorem PlS.code (y : PlS w0 w g h c gd l p z A o S v Z) (e : StepS w0 w S w' g l') : PlD w0 w' g h c gd l' p z A o := by
  obtain ⟨S', e1, e2, e3⟩ := e.out
  have hg := lt_blk y.db
  refine ⟨S', v, Z, ⟨e1, y.rs.only e2 fun k hk e => y.sr k e hk, y.cl.only e2 y.sz.symm y.sc.new, y.sr.fresh e3 fun k hk => (y.rs.lt k hk).2, y.sz.fresh e3 y.cl.there, y.rz, ⟨fun e => ?_, y.ng.2⟩, fun q hq => ⟨Nat.lt_of_lt_of_le (y.aa q hq).1 e2.size, fun e => ?_, (y.aa q hq).2.2⟩, e2.at_ y.db y.ng.1, y.row.only e2 fun q hq => (y.aa q hq).2.1⟩⟩
  · rcases e3 _ e with h | h
    · exact y.ng.1 h
    · omega
  · rcases e3 _ e with h | h
    · exact (y.aa q hq).2.1 h
    · have := (y.aa q hq).1; omega
/-- a call on the reference's. -/
theorem PlS.ref (y : PlS w0 w g h c gd l p z A o S v Z) (e : RsE w0.heap.size h v p' w w') : PlD w0 w' g h c gd l p' z A o := by
  obtain ⟨v', e1, e2, e3⟩ := e.out
  have hg := lt_blk y.db
  have hn : ∀ k, FootR h v k → w0.heap.size ≤ k := fun k hk => (y.rs.lt k hk).1
  refine ⟨S, v', Z, ⟨y.sc.only e2 y.sr hn, e1, y.cl.only e2 y.rz.symm hn, (y.sr.symm.fresh e3 y.sc.there).symm, y.sz, y.rz.fresh e3 y.cl.there, ⟨y.ng.1, fun e => ?_⟩, fun q hq => ⟨Nat.lt_of_lt_of_le (y.aa q hq).1 e2.size, (y.aa q hq).2.1, fun e => ?_⟩, e2.at_ y.db y.ng.2, y.row.only e2 fun q hq => (y.aa q hq).2.2⟩⟩
  · rcases e3 _ e with h | h
    · exact y.ng.2 h
    · omega
  · rcases e3 _ e with h | h
    · exact (y.aa q hq).2.2 h
    · have := (y.aa q hq).1; omega
theorem order_r (h : LawS w0 w S g l) : Calls Tryd.prog 11 #[.pointer (some ⟨g, 0, none⟩)] w fun r w' => ∃ A c, r = .returned (.slice A (ordI l).length c) ∧ RowB .i64 w' A (ordI l).length (ordI l) ∧ (∀ p, A = some p → w.heap.size ≤ p.block ∧ p.block < w'.heap.size) ∧ Below w.heap.size w w' := by
  obtain ⟨v, hl', h3, h4⟩ := h.sc
  refine (order_tu g (xT l) (yT l) v hl' w h3.t).mono ?_
  rintro r w' ⟨va, acc, rfl, hR, hp, hs, hf, hb⟩
  obtain rfl := order_is h3.inv h3.on h3.t.nd hp hs
  have hlen := hp.length_eq
  have hfew := h3.t.few
  obtain ⟨A, c, rfl, hc, hn⟩ := hR.form
  refine ⟨A, c, rfl, hR.row (by unfold maxLen; omega) fun u hu => by have := h3.t.aid u (hp.mem_iff.1 hu); omega, fun p hpA => ?_, hb⟩
  subst hpA
  exact ⟨hf _ rfl, hR.lt _ rfl⟩
/-- begun: a copy is made, the row is drawn of it. -/
theorem clone_a (x : PlA w0 w g h l) : Calls Tryd.prog 10 #[.pointer (some ⟨g, 0, none⟩)] w fun r w' => ∃ c Z, r = .returned (.pointer (some ⟨c, 0, none⟩)) ∧ LawS w0 w' Z c l ∧ (∀ k, Z k → w.heap.size ≤ k) ∧ Below w.heap.size w w' := by
  obtain ⟨S, v, h1, h2, h3⟩ := x.out
  refine (clone_l h1).mono ?_
  rintro r w' ⟨Z, c, rfl, h4, h5, h6⟩
  exact ⟨c, Z, rfl, h4, h6, h5⟩
theorem PlA.begin {w1 w2 w3 : World} (x : PlA w0 w g h l) (hb1 : Below w.heap.size w w1) (hgd : w1.heap[gd]? = some o) (hgn : w.heap.size ≤ gd) (hz : LawS w0 w2 Z c l) (hb2 : Below w1.heap.size w1 w2) (hn : ∀ k, Z k → w1.heap.size ≤ k)
    (hr : RowB .i64 w3 A (ordI l).length (ordI l)) (hA : ∀ p, A = some p → w2.heap.size ≤ p.block ∧ p.block < w3.heap.size) (hb3 : Below w2.heap.size w2 w3) : PlD w0 w3 g h c gd l l l A o := by
  obtain ⟨S, v, h1, h2, h3⟩ := x.out
  have hg1 := lt_blk hgd
  have s1 := hb1.size
  have s2 := hb2.size
  refine ⟨S, v, Z, ⟨((h1.quiet hb1).quiet hb2).quiet hb3, ((h2.below hb1).below hb2).below hb3, hz.quiet hb3, h3, fun k hk e => ?_, fun k hk e => ?_, ⟨fun e => ?_, fun e => ?_⟩, fun q hq => ⟨(hA q hq).2, fun e => ?_, fun e => ?_⟩, ?_, hr⟩⟩
  · have := h1.there k hk; have := hn k e; omega
  · have := (h2.lt k hk).2; have := hn k e; omega
  · have := h1.there _ e; omega
  · have := (h2.lt _ e).2; omega
  · have := h1.there _ e; have := (hA q hq).1; omega
  · have := (h2.lt _ e).2; have := (hA q hq).1; omega
  · exact (hb3.block gd (Nat.lt_of_lt_of_le hg1 s2)).trans ((hb2.block gd hg1).trans hgd)
theorem order_c (x : PlD w0 w g h c gd l p z A o) : Calls Tryd.prog 11 #[.pointer (some ⟨g, 0, none⟩)] w fun r w' => ∃ A' c', r = .returned (.slice A' (ordI l).length c') ∧ RowB .i64 w' A' (ordI l).length (ordI l) ∧ PlD w0 w' g h c gd l p z A o ∧ Below w.heap.size w w' := by
  obtain ⟨S, v, Z, y⟩ := x.out
  exact (order_r y.sc).mono fun _ _ ⟨A', c', e, hr, _, hb⟩ => ⟨A', c', e, hr, x.quiet hb, hb⟩
theorem order_z (x : PlD w0 w g h c gd l p z A o) : Calls Tryd.prog 11 #[.pointer (some ⟨c, 0, none⟩)] w fun r w' => ∃ A' c', r = .returned (.slice A' (ordI z).length c') ∧ RowB .i64 w' A' (ordI z).length (ordI z) ∧ PlD w0 w' g h c gd l p z A o ∧ Below w.heap.size w w' := by
  obtain ⟨S, v, Z, y⟩ := x.out
  exact (order_r y.cl).mono fun _ _ ⟨A', c', e, hr, _, hb⟩ => ⟨A', c', e, hr, x.quiet hb, hb⟩
theorem time_c (x : PlD w0 w g h c gd l p z A o) (a : Int) : Calls Tryd.prog 25 #[.pointer (some ⟨g, 0, none⟩), .int .i64 a] w fun r w' => r = .returned (.tuple #[.int .i64 ((timeT l a).1 : Nat), .bool (timeT l a).2]) ∧ PlD w0 w' g h c gd l p z A o := by
  obtain ⟨S, v, Z, y⟩ := x.out
  exact (time_l y.sc a).mono fun _ _ ⟨e, _, hb⟩ => ⟨e, x.quiet hb⟩
theorem find_r (x : PlD w0 w g h c gd l p z A o) (hp : p.length ≤ 1000) (a : Int) : Calls Tryd.prog 26 #[.pointer (some ⟨h, 0, none⟩), .int .i64 a] w fun r w' => r = .returned (.int .i64 (ansF p a)) ∧ w = w' := by
  obtain ⟨S, v, Z, y⟩ := x.out
  have h2 := y.rs
  obtain ⟨A', c', rfl, hr, hc⟩ := h2.row (by omega)
  exact find_any h A' c' p a w h2.slot hr
/-- where the reference keeps one's time. -/
theorem PlD.cells (x : PlD w0 w g h c gd l p z A o) (hp : p.length ≤ 1000) {k : Nat} (hk : k < p.length) : ∃ b off cc, w.cell? ⟨h, 0, none⟩ = some (.slice (some ⟨b, off, none⟩) p.length cc) ∧ w.cell? ⟨b, off + k * 4 + 2, none⟩ = some (.int .i64 (((p.getD k tu0).tm : Nat) : Int)) := by
  obtain ⟨S, v, Z, y⟩ := x.out
  have h2 := y.rs
  obtain ⟨A', c', rfl, hr, hc⟩ := h2.row (by omega)
  obtain ⟨b, off, rfl, hrg⟩ := hr.el k hk
  exact ⟨b, off, c', cell1 h2.slot, range_cell hrg 2 _ rfl⟩
theorem reforder_r (x : PlD w0 w g h c gd l p z A o) (hi : InvT p) (hp : p.length ≤ 1000) : Calls Tryd.prog 24 #[.pointer (some ⟨h, 0, none⟩)] w fun r w' => ∃ A' c', r = .returned (.slice A' (ordI p).length c') ∧ RowB .i64 w' A' (ordI p).length (ordI p) ∧ PlD w0 w' g h c gd l p z A o ∧ Below w.heap.size w w' := by
  obtain ⟨S, v, Z, y⟩ := x.out
  have h2 := y.rs
  obtain ⟨A', c', rfl, hr, hc⟩ := h2.row (by omega)
  refine (reforder_any h A' c' p w h2.slot hr hp).mono ?_
  rintro r w' ⟨vr, rfl, hR, hf, hb⟩
  have hR : RowN w' vr (ordI p) := hR
  obtain ⟨A2, c2, rfl, hc2, hn2⟩ := hR.form
  refine ⟨A2, c2, rfl, hR.row ?_ ?_, x.quiet hb, hb⟩
  · have h5 := ordN_len p
    have h6 := List.length_filter_le (fun t : Tu => t.on) p
    rw [ordI_len]
    unfold maxLen
    omega
  · intro u hu
    obtain ⟨t, ht, -, e⟩ := ordI_mem.1 hu
    have := (hi.ok t ht).aid
    omega
theorem add_c (x : PlD w0 w g h c gd l p z A o) (hl : l.length ≤ 800) (hS : Sent w0 E T) (h1 : 103 ∈ T) (h2 : 108 ∈ T) (a n : Int) : Calls Tryd.prog 13 #[.pointer (some ⟨g, 0, none⟩), .int .i64 a, .int .i64 n] w fun r w' => r = .returned (errV E (addT l a n).2) ∧ PlD w0 w' g h c gd (addT l a n).1 p z A o := by
  obtain ⟨S, v, Z, y⟩ := x.out
  exact (add_l y.sc hl hS h1 h2 a n).mono fun _ _ q => ⟨q.1, y.code q.2⟩
theorem del_c (x : PlD w0 w g h c gd l p z A o) (hS : Sent w0 E T) (h1 : 107 ∈ T) (a : Int) : Calls Tryd.prog 15 #[.pointer (some ⟨g, 0, none⟩), .int .i64 a] w fun r w' => r = .returned (errV E (delT l a).2) ∧ PlD w0 w' g h c gd (delT l a).1 p z A o := by
  obtain ⟨S, v, Z, y⟩ := x.out
  exact (del_l y.sc hS h1 a).mono fun _ _ q => ⟨q.1, y.code q.2⟩
theorem weigh_c (x : PlD w0 w g h c gd l p z A o) (hS : Sent w0 E T) (h1 : 103 ∈ T) (h2 : 107 ∈ T) (a n : Int) : Calls Tryd.prog 17 #[.pointer (some ⟨g, 0, none⟩), .int .i64 a, .int .i64 n] w fun r w' => r = .returned (errV E (weighT l a n).2) ∧ PlD w0 w' g h c gd (weighT l a n).1 p z A o := by
  obtain ⟨S, v, Z, y⟩ := x.out
  exact (weigh_l y.sc hS h1 h2 a n).mono fun _ _ q => ⟨q.1, y.code q.2⟩
theorem active_c (x : PlD w0 w g h c gd l p z A o) (hS : Sent w0 E T) (h1 : 107 ∈ T) (a : Int) (on : Bool) : Calls Tryd.prog 19 #[.pointer (some ⟨g, 0, none⟩), .int .i64 a, .bool on] w fun r w' => r = .returned (errV E (actT l a on).2) ∧ PlD w0 w' g h c gd (actT l a on).1 p z A o := by
  obtain ⟨S, v, Z, y⟩ := x.out
  exact (active_l y.sc hS h1 a on).mono fun _ _ q => ⟨q.1, y.code q.2⟩
theorem charge_c (x : PlD w0 w g h c gd l p z A o) (hS : Sent w0 E T) (h1 : 103 ∈ T) (h2 : 107 ∈ T) (a n : Int) : Calls Tryd.prog 21 #[.pointer (some ⟨g, 0, none⟩), .int .i64 a, .int .i64 n] w fun r w' => r = .returned (errV E (chT l a n).2) ∧ PlD w0 w' g h c gd (chT l a n).1 p z A o := by
  obtain ⟨S, v, Z, y⟩ := x.out
  exact (charge_l y.sc hS h1 h2 a n).mono fun _ _ q => ⟨q.1, y.code q.2⟩
theorem add_r (x : PlD w0 w g h c gd l p z A o) (hp : p.length ≤ 1000) (a n : Int) : Calls Tryd.prog 14 #[.pointer (some ⟨h, 0, none⟩), .int .i64 a, .int .i64 n] w fun r w' => r = .returned (.int .i64 ((addT p a n).2 : Nat)) ∧ PlD w0 w' g h c gd l (addT p a n).1 z A o := by
  obtain ⟨S, v, Z, y⟩ := x.out
  exact (refadd_t y.rs hp y.sc.bel.size a n).mono fun _ _ q => ⟨q.1, y.ref q.2⟩
theorem del_r (x : PlD w0 w g h c gd l p z A o) (hp : p.length ≤ 1000) (a : Int) : Calls Tryd.prog 16 #[.pointer (some ⟨h, 0, none⟩), .int .i64 a] w fun r w' => r = .returned (.int .i64 ((delT p a).2 : Nat)) ∧ PlD w0 w' g h c gd l (delT p a).1 z A o := by
  obtain ⟨S, v, Z, y⟩ := x.out
  exact (refdel_t y.rs hp y.sc.bel.size a).mono fun _ _ q => ⟨q.1, y.ref q.2⟩
theorem weigh_r (x : PlD w0 w g h c gd l p z A o) (hp : p.length ≤ 1000) (a n : Int) : Calls Tryd.prog 18 #[.pointer (some ⟨h, 0, none⟩), .int .i64 a, .int .i64 n] w fun r w' => r = .returned (.int .i64 ((weighT p a n).2 : Nat)) ∧ PlD w0 w' g h c gd l (weighT p a n).1 z A o := by
  obtain ⟨S, v, Z, y⟩ := x.out
  exact (refweigh_t y.rs hp a n).mono fun _ _ q => ⟨q.1, y.ref q.2⟩
theorem active_r (x : PlD w0 w g h c gd l p z A o) (hi : InvT p) (hp : p.length ≤ 1000) (a : Int) (on : Bool) : Calls Tryd.prog 20 #[.pointer (some ⟨h, 0, none⟩), .int .i64 a, .bool on] w fun r w' => r = .returned (.int .i64 ((actT p a on).2 : Nat)) ∧ PlD w0 w' g h c gd l (actT p a on).1 z A o := by
  obtain ⟨S, v, Z, y⟩ := x.out
  exact (refactive_t y.rs hi hp y.sc.bel.size a on).mono fun _ _ q => ⟨q.1, y.ref q.2⟩
theorem charge_r (x : PlD w0 w g h c gd l p z A o) (hi : InvT p) (hp : p.length ≤ 1000) (a n : Int) : Calls Tryd.prog 22 #[.pointer (some ⟨h, 0, none⟩), .int .i64 a, .int .i64 n] w fun r w' => r = .returned (.int .i64 ((chT p a n).2 : Nat)) ∧ PlD w0 w' g h c gd l (chT p a n).1 z A o := by
  obtain ⟨S, v, Z, y⟩ := x.out
  exact (refcharge_t y.rs hi hp a n).mono fun _ _ q => ⟨q.1, y.ref q.2⟩
end
theorem codes_add (l : List Tu) (a n : Int) : (addT l a n).2 = 0 ∨ (addT l a n).2 ∈ S14 := by
  unfold addT
  split
  · split
    · exact .inr (show 108 ∈ S14 by decide)
    · exact .inl rfl
  · exact .inr (show 103 ∈ S14 by decide)
theorem codes_del (l : List Tu) (a : Int) : (delT l a).2 = 0 ∨ (delT l a).2 ∈ S14 := by
  unfold delT
  split
  · exact .inl rfl
  · exact .inr (show 107 ∈ S14 by decide)
theorem codes_weigh (l : List Tu) (a n : Int) : (weighT l a n).2 = 0 ∨ (weighT l a n).2 ∈ S14 := by
  unfold weighT
  split
  · split
    · exact .inl rfl
    · exact .inr (show 103 ∈ S14 by decide)
  · exact .inr (show 107 ∈ S14 by decide)
theorem codes_charge (l : List Tu) (a n : Int) : (chT l a n).2 = 0 ∨ (chT l a n).2 ∈ S14 := by
  unfold chT
  split
  · split
    · exact .inl rfl
    · exact .inr (show 103 ∈ S14 by decide)
  · exact .inr (show 107 ∈ S14 by decide)
theorem codes_active (l : List Tu) (a : Int) (on : Bool) : (actT l a on).2 = 0 ∨ (actT l a on).2 ∈ S14 := by
  unfold actT
  split
  · exact .inl rfl
  · exact .inr (show 107 ∈ S14 by decide)
/-- the reference's begins as nothing. -/
theorem rs_zero (w : World) {B : Nat} (hB : B ≤ w.heap.size) : IsRs B (w.alloc (Obj.cells #[.slice none 0 0] 29 (0, 0))) w.heap.size (.slice none 0 0) [] :=
  ⟨(MapKept.heap_alloc w _).1, ⟨⟨rfl, .inl ⟨rfl, rfl⟩⟩, rfl⟩, fun e => (by cases e), hB⟩
end Go.Proofs.YtkmblmnffnhpmaaDoor
