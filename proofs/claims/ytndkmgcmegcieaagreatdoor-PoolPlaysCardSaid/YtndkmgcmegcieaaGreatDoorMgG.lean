/-
  FOR PoolPlays: the drops of a Put are but one; refused calls; pool and the reference's side by side.
-/
import Derived.Test.YtndkmgcmegcieaaGreatDoorRpF
import Derived.Test.YtndkmgcmegcieaaGreatDoorPoolK
import Derived.Test.YtndkmgcmegcieaaGreatDoorErrP
namespace Go.Proofs.YtndkmgcmegcieaaGreatDoor
open Go.ChangeShapes Go.WideShapes Go.ChangeAt Go.RowKit Go.Deep
set_option linter.unusedVariables false
set_option linter.unusedSimpArgs false
theorem shr_same {mp mb : Int} {M M1 : Nat → Qu} {ds : List Pk} (h : Shr mp mb M ds M1) : ∀ {ds2 : List Pk} {M2 : Nat → Qu}, Shr mp mb M ds2 M2 → ds2 = ds ∧ M2 = M1 := by
 induction h with
 | done h1 h2 =>
  intro ds2 M2 h'
  cases h' with
  | done _ _ => exact ⟨rfl, rfl⟩
  | step h3 _ _ _ => omega
 | step h1 h2 h3 _ ih =>
  intro ds2 M2 h'
  cases h' with
  | done k1 k2 => omega
  | step k1 k2 k3 k4 =>
   obtain rfl := Option.some.inj (best_opt h2 k2)
   rw [h3] at k3
   obtain ⟨rfl, -⟩ := List.cons.inj k3
   obtain ⟨rfl, rfl⟩ := ih k4
   exact ⟨rfl, rfl⟩
set_option maxRecDepth 100000 in
set_option maxHeartbeats 8000000 in
theorem refput_p_no (w : World) (g : Nat) (aid tid : Int) (hk : ¬ knownP aid tid) (pi pf pa : Int) (A : Option Addr) (m c : Nat) :
 Calls Tryz.prog 11 #[.pointer (some ⟨g, 0, none⟩), .int .i64 aid, .agg #[.int .i64 pi, .int .u32 pf, .int .i64 tid, .int .i64 pa, .slice A m c]] w fun e w' => e = .returned (.tuple #[.slice none 0 0, .int .i64 103]) ∧ Below w.heap.size w w' := by
 have HB1 := Shut.mk ((Below.refl w.heap.size w).alloc (Nat.le_refl _) (Obj.cells #[Value.int .i64 pi, .int .u32 pf, .int .i64 tid, .int .i64 pa, Value.slice A m c] 35 (0, 0)))
 have HKT := Shut.mk (fun w => there_any aid tid w false ⟨fun e => (by cases e), fun e => absurd e hk⟩)
 clear hk
 go_enter Tryz.func11, Tryz.ntmps11
 go_wp2_with (fail)
 refine (HKT.out _).mono ?_
 rintro e wn ⟨rfl, rfl⟩
 go_wp2_with (fail)
 go_ret2
 exact ⟨rfl, HB1.out⟩
set_option maxRecDepth 100000 in
set_option maxHeartbeats 8000000 in
theorem take_p_no (w : World) (g : Nat) (aid tid now : Int) (hk : ¬ knownP aid tid) :
 Calls Tryz.prog 14 #[.pointer (some ⟨g, 0, none⟩), .int .i64 aid, .int .i64 tid, .int .i64 now] w fun e w' => e = .returned (.tuple #[pkV pk00.1 (.slice none 0 0), .slice none 0 0, .bool false]) ∧ Below w.heap.size w w' := by
 have HB1 := Shut.mk ((Below.refl w.heap.size w).alloc (Nat.le_refl _) (Obj.cells #[Value.int .i64 0, .int .u32 0, .int .i64 0, .int .i64 0, Value.slice none 0 0] 35 (0, 0)))
 have HX1 := Shut.mk (MapKept.heap_alloc w (Obj.cells #[Value.int .i64 0, .int .u32 0, .int .i64 0, .int .i64 0, Value.slice none 0 0] 35 (0, 0))).1
 have HBZ := Shut.mk (below_setRow HB1.out (Nat.le_refl _) #[Value.int .i64 0, .int .u32 0, .int .i64 0, .int .i64 0, Value.slice none 0 0])
 have HX2 := Shut.mk (setRow_heap _ _ _ #[Value.int .i64 0, .int .u32 0, .int .i64 0, .int .i64 0, Value.slice none 0 0] _ (0, 0) HX1.out)
 have HKT := Shut.mk (fun w => queue_no aid tid w g hk)
 clear hk
 go_enter Tryz.func14, Tryz.ntmps14
 go_wp2_with (fail)
 refine (HKT.out _).mono ?_
 rintro e wn ⟨rfl, rfl⟩
 go_wp2_with (first
  | (refine wpList_store_row rfl 35 (.tmp 8) (.tmp 18) rfl w.heap.size #[Value.int .i64 0, .int .u32 0, .int .i64 0, .int .i64 0, Value.slice none 0 0] rfl rfl 35 _ HX1.out size5 rfl (pkt_one _ _ _ _ _ _ _) ?_))
 exact bodyPost_ret (v := .tuple #[.agg #[Value.int .i64 0, .int .u32 0, .int .i64 0, .int .i64 0, Value.slice none 0 0], .slice none 0 0, .bool false]) (results_ctt (p := 8) (q := 9) (r := 10) Tryz.results14 _ _ w.heap.size _ _ _ _ _ _ rfl rfl rfl HX2.out Tryz.underlying35 rfl size5) rfl ⟨rfl, HBZ.out⟩
set_option maxRecDepth 100000 in
set_option maxHeartbeats 8000000 in
theorem drop_p_no (w : World) (g : Nat) (aid : Int) (hk : ∀ t : Int, ¬ knownP aid t) :
 Calls Tryz.prog 17 #[.pointer (some ⟨g, 0, none⟩), .int .i64 aid] w fun e w' => e = .returned (.slice none 0 0) ∧ w = w' := by
 have HKT := Shut.mk (fun (t : Int) w => queue_no aid t w g (hk t))
 clear hk
 go_enter Tryz.func17, Tryz.ntmps17
 go_wp2_with (fail)
 go_loopw [5, 8] (fun u i wr => ∃ (k : Nat), k ≤ 8 ∧ i = .int .i64 k ∧ u = .slice none 0 0 ∧ w = wr) (fun _ i _ => 8 - (intOf i).toNat)
 case atStart => exact ⟨0, by omega, rfl, rfl, rfl⟩
 case round =>
  obtain ⟨k, hk, rfl, rfl, rfl⟩ := hrel
  by_cases hlt : k < 8
  ·have hlti : (k : Int) < 8 := by omega
   go_wp2_with (fail)
   refine (HKT.out (k : Int) w).mono ?_
   rintro e wn ⟨rfl, rfl⟩
   go_wp2_with (fail)
   go_roundw
   case rel => exact ⟨k + 1, by omega, by go_num, by first | rfl | trivial, by first | rfl | trivial⟩
   case measure => simp [intOf]; omega
  ·obtain rfl : k = 8 := by omega
   go_wp2_with (fail)
   go_ret
   exact ⟨rfl, rfl⟩
structure QPw (w0 : World) (g gr : Nat) (hd : Hd) (w : World) (La : Nat → Prop) (T T2 : Nat → Prop) (X Y : Nat → Option Qs) : Prop where
 cq : IsPool T w g hd X
 rq : IsRpl T2 w gr hd Y
 bel : Below w0.heap.size w0 w
 cnew : ∀ k, FootP g X k → w0.heap.size ≤ k
 rnew : ∀ k, FootL gr Y k → w0.heap.size ≤ k
 ap : ∀ k, FootP g X k → ¬ FootL gr Y k
 c1 : ∀ k, FootP g X k → ¬ T2 k
 c2 : ∀ k, FootL gr Y k → ¬ T k
 la : ∀ k, La k → k < w.heap.size ∧ ¬ FootP g X k ∧ ¬ FootL gr Y k
section
variable {w0 w w' : World} {g gr : Nat} {hd : Hd} {La La' T T' T2 T2' : Nat → Prop} {X X' Y Y' : Nat → Option Qs}
theorem QPw.quiet_la (h : QPw w0 g gr hd w La T T2 X Y) (hb : Below w.heap.size w w') (hL : ∀ k, La' k → La k ∨ (w.heap.size ≤ k ∧ k < w'.heap.size) ∨ T k) : QPw w0 g gr hd w' La' T T2 X Y :=
 ⟨h.cq.quiet hb, h.rq.quiet hb, h.bel.trans (hb.mono h.bel.size), h.cnew, h.rnew, h.ap, h.c1, h.c2, fun k hk => by
   rcases hL k hk with h1 | ⟨h1, h2⟩ | h1
   ·exact ⟨Nat.lt_of_lt_of_le (h.la k h1).1 hb.size, (h.la k h1).2⟩
   ·exact ⟨h2, fun e => by have := h.cq.lts e; omega, fun e => by have := h.rq.lts e; omega⟩
   ·exact ⟨Nat.lt_of_lt_of_le (h.cq.there k h1) hb.size, fun e => h.cq.foot e h1, fun e => h.c2 k e h1⟩⟩
theorem QPw.quiet (h : QPw w0 g gr hd w La T T2 X Y) (hb : Below w.heap.size w w') : QPw w0 g gr hd w' La T T2 X Y := h.quiet_la hb fun k hk => .inl hk
theorem QPw.code (h : QPw w0 g gr hd w La T T2 X Y) (hQ : IsPool T' w' g hd X') (hC : PlS T w g X T' w' X') : QPw w0 g gr hd w' La T' T2 X' Y where
 cq := hQ
 rq := h.rq.only hC.only (fun k hk e => h.ap k e hk) (fun k hk e => h.c1 k e hk)
 bel := h.bel.trans (hC.only.below (fun i hi e => by have := h.cnew i e; omega) h.bel.size)
 cnew := fun k hk => by
  rcases hC.fresh k hk with h1 | h1
  ·exact h.cnew k h1
  ·exact Nat.le_trans h.bel.size h1
 rnew := h.rnew
 ap := fun k hk e => by
  rcases hC.fresh k hk with h1 | h1
  ·exact h.ap k h1 e
  ·have := h.rq.lts e; omega
 c1 := fun k hk e => by
  rcases hC.fresh k hk with h1 | h1
  ·exact h.c1 k h1 e
  ·have := h.rq.there k e; omega
 c2 := fun k hk e => by
  rcases hC.ft k e with h1 | h1
  ·exact h.c2 k hk h1
  ·have := h.rq.lts hk; omega
 la := fun k hk => by
  obtain ⟨h1, h2, h3⟩ := h.la k hk
  refine ⟨Nat.lt_of_lt_of_le h1 hC.only.size, fun e => ?_, h3⟩
  rcases hC.fresh k e with h4 | h4
  ·exact h2 h4
  ·omega
theorem QPw.ref (h : QPw w0 g gr hd w La T T2 X Y) (hQ : IsRpl T2' w' gr hd Y') (hC : RlS T2 w gr Y T2' w' Y') : QPw w0 g gr hd w' La T T2' X Y' where
 cq := h.cq.only hC.only (fun k hk e => h.ap k hk e) (fun k hk e => h.c2 k e hk)
 rq := hQ
 bel := h.bel.trans (hC.only.below (fun i hi e => by have := h.rnew i e; omega) h.bel.size)
 cnew := h.cnew
 rnew := fun k hk => by
  rcases hC.fresh k hk with h1 | h1
  ·exact h.rnew k h1
  ·exact Nat.le_trans h.bel.size h1
 ap := fun k hk e => by
  rcases hC.fresh k e with h1 | h1
  ·exact h.ap k hk h1
  ·have := h.cq.lts hk; omega
 c1 := fun k hk e => by
  rcases hC.ft k e with h1 | h1
  ·exact h.c1 k hk h1
  ·have := h.cq.lts hk; omega
 c2 := fun k hk e => by
  rcases hC.fresh k hk with h1 | h1
  ·exact h.c2 k h1 e
  ·have := h.cq.there k e; omega
 la := fun k hk => by
  obtain ⟨h1, h2, h3⟩ := h.la k hk
  refine ⟨Nat.lt_of_lt_of_le h1 hC.only.size, h2, fun e => ?_⟩
  rcases hC.fresh k e with h4 | h4
  ·exact h3 h4
  ·omega
end
def Lap (gd gz : Nat) (Z : Nat → Option Qs) (T0 : Nat → Prop) (k : Nat) : Prop := k = gd ∨ FootP gz Z k ∨ T0 k
structure QPd (w0 : World) (g gr : Nat) (hd : Hd) (gd : Nat) (dc : Array Value) (gz : Nat) (T0 : Nat → Prop) (Z : Nat → Option Qs) (w : World) (T T2 : Nat → Prop) (X Y : Nat → Option Qs) : Prop where
 pw : QPw w0 g gr hd w (Lap gd gz Z T0) T T2 X Y
 db : w.heap[gd]? = some (.cells dc 37 (0, 0))
 cl : IsPool T0 w gz hd Z
section
variable {w0 w w' : World} {g gr gz : Nat} {hd : Hd} {gd : Nat} {dc : Array Value} {T T' T2 T2' T0 : Nat → Prop} {X X' Y Y' Z : Nat → Option Qs}
theorem QPd.quiet (h : QPd w0 g gr hd gd dc gz T0 Z w T T2 X Y) (hb : Below w.heap.size w w') : QPd w0 g gr hd gd dc gz T0 Z w' T T2 X Y :=
 ⟨h.pw.quiet hb, (hb.block _ (lt_blk h.db)).trans h.db, h.cl.quiet hb⟩
theorem QPd.code (h : QPd w0 g gr hd gd dc gz T0 Z w T T2 X Y) (hQ : IsPool T' w' g hd X') (hC : PlS T w g X T' w' X') : QPd w0 g gr hd gd dc gz T0 Z w' T' T2 X' Y :=
 ⟨h.pw.code hQ hC, hC.only.at_ h.db (h.pw.la gd (.inl rfl)).2.1, h.cl.only hC.only (fun k hk => (h.pw.la k (.inr (.inl hk))).2.1) (fun k hk => (h.pw.la k (.inr (.inr hk))).2.1)⟩
theorem QPd.ref (h : QPd w0 g gr hd gd dc gz T0 Z w T T2 X Y) (hQ : IsRpl T2' w' gr hd Y') (hC : RlS T2 w gr Y T2' w' Y') : QPd w0 g gr hd gd dc gz T0 Z w' T T2' X Y' :=
 ⟨h.pw.ref hQ hC, hC.only.at_ h.db (h.pw.la gd (.inl rfl)).2.2, h.cl.only hC.only (fun k hk => (h.pw.la k (.inr (.inl hk))).2.2) (fun k hk => (h.pw.la k (.inr (.inr hk))).2.2)⟩
theorem QPd.store (h : QPd w0 g gr hd gd dc gz T0 Z w T T2 X Y) (dc' : Array Value) (hg : w0.heap.size ≤ gd) (hT : ¬ T gd ∧ ¬ T2 gd ∧ ¬ T0 gd ∧ ¬ FootP gz Z gd) : QPd w0 g gr hd gd dc' gz T0 Z (w.setRow gd dc') T T2 X Y := by
 have ho := only_setRow w gd dc'
 have hl := h.pw.la gd (.inl rfl)
 refine ⟨⟨h.pw.cq.only ho (fun k hk e => hl.2.1 (e ▸ hk)) (fun k hk e => hT.1 (e ▸ hk)), h.pw.rq.only ho (fun k hk e => hl.2.2 (e ▸ hk)) (fun k hk e => hT.2.1 (e ▸ hk)), h.pw.bel.trans (ho.below (fun i hi e => by omega) h.pw.bel.size), h.pw.cnew, h.pw.rnew, h.pw.ap, h.pw.c1, h.pw.c2, fun k hk => ⟨Nat.lt_of_lt_of_le (h.pw.la k hk).1 ho.size, (h.pw.la k hk).2⟩⟩, setRow_heap w gd _ dc' _ (0, 0) h.db, h.cl.only ho (fun k hk e => hT.2.2.2 (e ▸ hk)) (fun k hk e => hT.2.2.1 (e ▸ hk))⟩
end
end Go.Proofs.YtndkmgcmegcieaaGreatDoor
/-
  FOR PoolPlays: each call on pool and on the reference's, in the words of the two side by side.
-/
namespace Go.Proofs.YtndkmgcmegcieaaGreatDoor
open Go.ChangeShapes Go.WideShapes Go.ChangeAt Go.RowKit Go.Deep
set_option linter.unusedVariables false
set_option linter.unusedSimpArgs false
def wf8 (xs : List Int) : Prop := ∀ i, i < xs.length → IntKind.u8.min ≤ xs.getD i 0 ∧ xs.getD i 0 ≤ IntKind.u8.max
theorem IsCq.wf {T : Nat → Prop} {w : World} {x : Rq} {V : Nat → Value} {q : Qu} (h : IsCq T w x V q) {b : Nat} (hb : b < 16) {p : Pk} (hp : p ∈ (q.fl b).pk) : wf8 p.body := by
 obtain ⟨l', h1, h2, h3⟩ := h.pk b hb
 rw [← h2] at hp
 obtain ⟨y, hy, rfl⟩ := List.mem_map.1 hp
 obtain ⟨a, m, c, -, hr, -⟩ := h3 y hy
 intro i hi
 exact hr.wf i (by rw [← hr.len]; exact hi)
theorem taken_mem {bk : Int → Nat} {P : Pl} {q q' : Qu} {p : Pk} {ds : List Pk} (ht : Takes P q [] (some p) ds q') (hI : InvQ bk q) : p ∈ (q.fl (bk p.flow)).pk := by
 have h := (takes_keep ht hI).2.1 (bk p.flow)
 have h1 : p ∈ outOf bk (bk p.flow) (ds ++ (some p).toList) := by unfold outOf; simp
 have h2 : p ∈ outOf bk (bk p.flow) [] ++ (q.fl (bk p.flow)).pk := by rw [← h]; exact List.mem_append_left _ h1
 simpa [outOf] using h2
def New (w w' : World) (k : Nat) : Prop := w.heap.size ≤ k ∧ k < w'.heap.size
def AnsP (N : Nat → Prop) (w : World) (l : Option Pk) (p0 : Pk) (b : Bool) (v : Value) : Prop := ((l = none ∧ p0 = pk00.1 ∧ b = false) ∨ (l = some p0 ∧ b = true)) ∧ ElK N w v p0.body
section
variable {N N' S : Nat → Prop} {w w' : World} {l : Option Pk} {p p' : Pk} {b b' : Bool} {v v' : Value}
theorem AnsP.none_ (N : Nat → Prop) (w : World) : AnsP N w none pk00.1 false (.slice none 0 0) := ⟨.inl ⟨rfl, rfl, rfl⟩, ElK.nil _ _⟩
theorem AnsP.same (h : AnsP N w l p b v) (h' : AnsP N' w' l p' b' v') : p' = p ∧ b' = b := by
 rcases h.1 with ⟨e1, e2, e3⟩ | ⟨e1, e2⟩
 ·rcases h'.1 with ⟨-, e5, e6⟩ | ⟨e4, -⟩
  ·exact ⟨e5.trans e2.symm, e6.trans e3.symm⟩
  ·rw [e1] at e4; cases e4
 ·rcases h'.1 with ⟨e4, -⟩ | ⟨e4, e5⟩
  ·rw [e1] at e4; cases e4
  ·rw [e1] at e4; cases e4; exact ⟨rfl, e5.trans e2.symm⟩
theorem AnsP.only (h : AnsP N w l p b v) (ho : Only S w w') (hs : ∀ k, N k → ¬ S k) : AnsP N w' l p b v := ⟨h.1, h.2.only ho hs⟩
theorem AnsP.below (h : AnsP N w l p b v) (hb : Below w.heap.size w w') : AnsP N w' l p b v := ⟨h.1, h.2.below hb⟩
theorem AnsP.form (h : AnsP N w l p b v) : ∃ A m c, v = .slice A m c ∧ RowB .u8 w A m p.body := by
 obtain ⟨A, m, c, e, hr, -⟩ := h.2
 exact ⟨A, m, c, e, hr⟩
end
structure Late (T3 N : Nat → Prop) (w : World) (ds : List Pk) (late : Value) (A : Option Addr) (c : Nat) : Prop where
 eq : late = .slice A ds.length c
 row : RowP T3 w A ds
 blk : ∀ a, A = some a → N a.block
section
variable {T3 N S : Nat → Prop} {w w' : World} {ds : List Pk} {late : Value} {A : Option Addr} {c : Nat}
theorem Late.only (h : Late T3 N w ds late A c) (ho : Only S w w') (h1 : ∀ k, N k → ¬ S k) (h2 : ∀ k, T3 k → ¬ S k) : Late T3 N w' ds late A c := ⟨h.eq, RowK.only h.row ho (fun a ha => h1 _ (h.blk a ha)) h2, h.blk⟩
theorem Late.below (h : Late T3 N w ds late A c) (hb : Below w.heap.size w w') : Late T3 N w' ds late A c := ⟨h.eq, RowK.below h.row hb, h.blk⟩
theorem Late.of {B : Nat} (h : OwnP T3 w B late ds) (hl : ds.length ≤ 100000) : ∃ A c, Late T3 (fun k => B ≤ k ∧ k < w.heap.size) w ds late A c := by
 obtain ⟨A, c, e, hr, -, -⟩ := h.row (by unfold maxLen; omega)
 obtain ⟨l', ho, -⟩ := h
 refine ⟨A, c, e, hr, fun a ha => ?_⟩
 subst e
 subst ha
 exact World.ownsRow.lt ho.1 a.block rfl
end
theorem shr_len {mp mb : Int} {M M' : Nat → Qu} {ds : List Pk} (h : Shr mp mb M ds M') : ds.length ≤ (allP M 128).length := by
 have h1 := (shr_perm h).1.length_eq
 rw [List.length_append] at h1
 omega
section
variable {w0 w : World} {g gr gz : Nat} {hd : Hd} {gd : Nat} {dc : Array Value} {T T2 T0 : Nat → Prop} {X Y Z : Nat → Option Qs}
theorem qput_c (h : QPd w0 g gr hd gd dc gz T0 Z w T T2 X Y) (hmp : 1 ≤ hd.mp ∧ 1 ≤ hd.mb) (a t : Nat) (ha : a < 16) (ht : t < 8) (aid tid : Int) (hai : aid = (a : Int) + 1) (hti : tid = (t : Nat)) (pi pf pa : Int) (pb : List Int) (A : Option Addr) (m cp : Nat) (hb : RowB .u8 w A m pb) (hm : m ≤ 1000000)
 (hf : 0 ≤ pf ∧ pf ≤ 4294967295) (hat : 0 ≤ pa ∧ pa ≤ 4503599627370496) (hl : (allP (mOf X) 128).length ≤ 900) (hnb : 0 < m → ∀ p, A = some p → ¬ FootP g X p.block) :
 Calls Tryz.prog 10 #[.pointer (some ⟨g, 0, none⟩), .int .i64 aid, .agg #[.int .i64 pi, .int .u32 pf, .int .i64 tid, .int .i64 pa, .slice A m cp]] w fun e w' => ∃ T' X' ds u T3 A' c, QPd w0 g gr hd gd dc gz T0 Z w' T' T2 X' Y ∧ e = .returned (.tuple #[u, .nilIface]) ∧ Late T3 (New w w') w' ds u A' c ∧ (∀ k, T3 k → New w w' k) ∧ w.heap.size ≤ w'.heap.size ∧
  Shr hd.mp hd.mb (updF (mOf X) (8 * a + t) (putQ (bkQ hd.seed) (mOf X (8 * a + t)) ⟨pi, pf, (t : Nat), pa, pb⟩)) ds (mOf X') := by
 subst hai
 subst hti
 refine (put_in_any h.pw.cq hmp a t ha ht pi pf pa pb A m cp hb hm hf hat hl hnb).mono ?_
 rintro e w' ⟨u, T', T3, X', ds, rfl, hP, hS, hO, hT, -, hR⟩
 have h1 := shr_len hR
 have h2 : (allP (updF (mOf X) (8 * a + t) (putQ (bkQ hd.seed) (mOf X (8 * a + t)) ⟨pi, pf, (t : Nat), pa, pb⟩)) 128).length = (allP (mOf X) 128).length + 1 := (allP_put (bkQ_lt hd.seed) (mOf X) (show 8 * a + t < 128 by omega) ⟨pi, pf, (t : Nat), pa, pb⟩).length_eq
 obtain ⟨A', c, hL⟩ := Late.of hO (by omega)
 exact ⟨T', X', ds, u, T3, A', c, h.code hP hS, rfl, hL, hT, hS.only.size, hR⟩
theorem qput_r (h : QPd w0 g gr hd gd dc gz T0 Z w T T2 X Y) (hf : FullR Y) (hmp : 1 ≤ hd.mp ∧ 1 ≤ hd.mb) (a t : Nat) (ha : a < 16) (ht : t < 8) (aid tid : Int) (hai : aid = (a : Int) + 1) (hti : tid = (t : Nat)) (pi pf pa : Int) (pb : List Int) (A : Option Addr) (m cp : Nat) (hb : RowB .u8 w A m pb) (hm : m ≤ 1000000)
 (hfl : 0 ≤ pf ∧ pf ≤ 4294967295) (hat : 0 ≤ pa ∧ pa ≤ 4503599627370496) (hl : (allP (mR Y) 128).length ≤ 900) :
 Calls Tryz.prog 11 #[.pointer (some ⟨gr, 0, none⟩), .int .i64 aid, .agg #[.int .i64 pi, .int .u32 pf, .int .i64 tid, .int .i64 pa, .slice A m cp]] w fun e w' => ∃ T2' Y' ds u T3 A' c, QPd w0 g gr hd gd dc gz T0 Z w' T T2' X Y' ∧ FullR Y' ∧ e = .returned (.tuple #[u, .int .i64 0]) ∧ Late T3 (New w w') w' ds u A' c ∧ Only (FootL gr Y) w w' ∧
  Shr hd.mp hd.mb (updF (mR Y) (8 * a + t) (putQ (bkQ hd.seed) (mR Y (8 * a + t)) ⟨pi, pf, (t : Nat), pa, pb⟩)) ds (mR Y') := by
 subst hti
 refine (refput_p_in h.pw.rq hf hmp a t ha ht aid hai pi pf pa pb A m cp hb hm hfl hat hl).mono ?_
 rintro e w' ⟨u, T', T3, Y', ds, rfl, hP, hS, hF, hO, hT, -, hR⟩
 have h1 := shr_len hR
 have h2 : (allP (updF (mR Y) (8 * a + t) (putQ (bkQ hd.seed) (mR Y (8 * a + t)) ⟨pi, pf, (t : Nat), pa, pb⟩)) 128).length = (allP (mR Y) 128).length + 1 := (allP_put (bkQ_lt hd.seed) (mR Y) (show 8 * a + t < 128 by omega) ⟨pi, pf, (t : Nat), pa, pb⟩).length_eq
 obtain ⟨A', c, hL⟩ := Late.of hO (by omega)
 exact ⟨T', Y', ds, u, T3, A', c, h.ref hP hS, hF, rfl, hL, hS.only, hR⟩
theorem qdrop_c (h : QPd w0 g gr hd gd dc gz T0 Z w T T2 X Y) (a : Nat) (ha : a < 16) (aid : Int) (hai : aid = (a : Int) + 1) (hl : (allP (mOf X) 128).length ≤ 1000) :
 Calls Tryz.prog 17 #[.pointer (some ⟨g, 0, none⟩), .int .i64 aid] w fun e w' => ∃ X' u T3 A' c, QPd w0 g gr hd gd dc gz T0 Z w' T T2 X' Y ∧ e = .returned u ∧ mOf X' = clrM (mOf X) a 8 ∧ Late T3 (New w w') w' (dropA (mOf X) a 8) u A' c ∧ (∀ k, T3 k → New w w' k) ∧ w.heap.size ≤ w'.heap.size := by
 subst hai
 have hd8 := (all_drops (mOf X) ha 8 (Nat.le_refl _)).length_eq
 rw [List.length_append] at hd8
 refine (drop_p_any h.pw.cq a ha hl).mono ?_
 rintro e w' ⟨u, T3, rfl, hL⟩
 obtain ⟨A', c, hLt⟩ := Late.of hL.own (by omega)
 exact ⟨_, u, T3, A', c, h.code hL.is hL.st, rfl, mOf_clrX X a 8, hLt, hL.new, hL.st.only.size⟩
theorem qdrop_r (h : QPd w0 g gr hd gd dc gz T0 Z w T T2 X Y) (hf : FullR Y) (a : Nat) (ha : a < 16) (aid : Int) (hai : aid = (a : Int) + 1) (hl : (allP (mR Y) 128).length ≤ 1000) :
 Calls Tryz.prog 18 #[.pointer (some ⟨gr, 0, none⟩), .int .i64 aid] w fun e w' => ∃ Y' u A' c, QPd w0 g gr hd gd dc gz T0 Z w' T T2 X Y' ∧ FullR Y' ∧ e = .returned u ∧ mR Y' = clrM (mR Y) a 8 ∧ Late T2 (New w w') w' (dropA (mR Y) a 8) u A' c ∧ Only (FootL gr Y) w w' := by
 have hd8 := (all_drops (mR Y) ha 8 (Nat.le_refl _)).length_eq
 rw [List.length_append] at hd8
 refine (refdrop_p_in h.pw.rq hf a ha aid hai hl).mono ?_
 rintro e w' ⟨u, Y', rfl, hL⟩
 obtain ⟨A', c, hLt⟩ := Late.of hL.own (by omega)
 exact ⟨Y', u, A', c, h.ref hL.is hL.st, hL.full, rfl, hL.mod, hLt, hL.st.only⟩
theorem qtake_c (h : QPd w0 g gr hd gd dc gz T0 Z w T T2 X Y) (a t : Nat) (ha : a < 16) (ht : t < 8) (aid tid : Int) (hai : aid = (a : Int) + 1) (hti : tid = (t : Nat)) (now : Int) (h0 : 0 ≤ now) (hM : now + 1073741824 ≤ 4503599627370496)
 (r : Option Pk) (ds : List Pk) (q' : Qu) (hT : Takes ⟨now, clampR hd.tg 0 1073741824, clampR hd.iv 0 1073741824⟩ (mOf X (8 * a + t)) [] r ds q') :
 Calls Tryz.prog 14 #[.pointer (some ⟨g, 0, none⟩), .int .i64 aid, .int .i64 tid, .int .i64 now] w fun e w' => ∃ X' p0 b v late T3 A' c, QPd w0 g gr hd gd dc gz T0 Z w' T T2 X' Y ∧ mOf X' = updF (mOf X) (8 * a + t) q' ∧ e = .returned (.tuple #[pkV p0 v, late, .bool b]) ∧ AnsP (New w w') w' r p0 b v ∧ Late T3 (New w w') w' ds late A' c ∧ (∀ k, T3 k → New w w' k) ∧ w.heap.size ≤ w'.heap.size := by
 have hF := pool_few h.pw.cq (show 8 * a + t < 128 by omega)
 have hI := pool_inv h.pw.cq (show 8 * a + t < 128 by omega)
 have hlen := takes_len hT hI (bkQ_lt hd.seed) hF
 refine (take_in_any h.pw.cq a t ha ht aid tid hai hti now h0 hM r ds q' hT).mono ?_
 rintro e w' ⟨X', late, T3, v, hP, hS, hMd, hO, hT3, hE, -, -⟩
 obtain ⟨A', c, hLt⟩ := Late.of hO (by omega)
 rcases hE with ⟨rfl, rfl, rfl⟩ | ⟨p1, rfl, rfl, hv⟩
 ·exact ⟨X', pk00.1, false, _, late, T3, A', c, h.code hP hS, hMd, rfl, AnsP.none_ _ _, hLt, hT3, hS.only.size⟩
 ·have hmem := taken_mem hT hI
  have hlb := (hF.el _ (bkQ_lt hd.seed _) p1 hmem).2.2
  have hwf : wf8 p1.body := by
   cases hx : X (8 * a + t) with
   | none => rw [mOf_none hx] at hmem; cases hmem
   | some s =>
    rw [mOf_some hx] at hmem
    exact (h.pw.cq.qs _ (by omega) s hx).is.wf (bkQ_lt hd.seed _) hmem
  exact ⟨X', p1, true, v, late, T3, A', c, h.code hP hS, hMd, rfl, ⟨.inr ⟨rfl, rfl⟩, OwnV.el hv (by unfold maxLen; omega) hwf fun g hg => World.ownsRow.lt hv g hg⟩, hLt, hT3, hS.only.size⟩
theorem qtake_r (h : QPd w0 g gr hd gd dc gz T0 Z w T T2 X Y) (hf : FullR Y) (a t : Nat) (ha : a < 16) (ht : t < 8) (aid tid : Int) (hai : aid = (a : Int) + 1) (hti : tid = (t : Nat)) (now : Int) (h0 : 0 ≤ now) (hM : now + 1073741824 ≤ 4503599627370496)
 (r : Option Pk) (ds : List Pk) (q' : Qu) (hT : Takes ⟨now, clampR hd.tg 0 1073741824, clampR hd.iv 0 1073741824⟩ (mR Y (8 * a + t)) [] r ds q') :
 Calls Tryz.prog 15 #[.pointer (some ⟨gr, 0, none⟩), .int .i64 aid, .int .i64 tid, .int .i64 now] w fun e w' => ∃ Y' p0 b v late A' c, QPd w0 g gr hd gd dc gz T0 Z w' T T2 X Y' ∧ FullR Y' ∧ mR Y' = updF (mR Y) (8 * a + t) q' ∧ e = .returned (.tuple #[pkV p0 v, late, .bool b]) ∧ AnsP T2 w' r p0 b v ∧ Late T2 (New w w') w' ds late A' c ∧ Only (FootL gr Y) w w' := by
 obtain ⟨s, hx⟩ := hf ((a + 1) * 8 + t) (by omega)
 have hq := h.pw.rq.qs _ (by omega) s hx
 have hT' := hT
 rw [mR_some hx] at hT'
 have hlen := takes_len hT' hq.inv (bkQ_lt hd.seed) hq.few
 refine (reftake_p_in h.pw.rq hf a t ha ht aid tid hai hti now h0 hM r ds q' hT).mono ?_
 rintro e w' ⟨Y', late, v, hP, hS, hFu, hMd, hO, hE⟩
 obtain ⟨A', c, hLt⟩ := Late.of hO (by omega)
 rcases hE with ⟨rfl, rfl, rfl⟩ | ⟨p1, rfl, rfl, hv⟩
 ·exact ⟨Y', pk00.1, false, _, late, A', c, h.ref hP hS, hFu, hMd, rfl, AnsP.none_ _ _, hLt, hS.only⟩
 ·exact ⟨Y', p1, true, v, late, A', c, h.ref hP hS, hFu, hMd, rfl, ⟨.inr ⟨rfl, rfl⟩, hv⟩, hLt, hS.only⟩
theorem qclone (h : QPw w0 g gr hd w (· = gd) T T2 X Y) (hdb : w.heap[gd]? = some (.cells dc 37 (0, 0))) :
 Calls Tryz.prog 8 #[.pointer (some ⟨g, 0, none⟩)] w fun e w' => ∃ Z, e = .returned (.pointer (some ⟨w.heap.size, 0, none⟩)) ∧ QPd w0 g gr hd gd dc w.heap.size T Z w' T T2 X Y ∧ (∀ k, k < 128 → mOf Z k = mOf X k) ∧ (∀ k, FootP w.heap.size Z k → w.heap.size ≤ k) ∧ Below w.heap.size w w' := by
 refine (clone_p_any h.cq).mono ?_
 rintro e w' ⟨Z, rfl, hP, hM, hN, hb⟩
 refine ⟨Z, rfl, ⟨h.quiet_la hb fun k hk => ?_, (hb.block _ (lt_blk hdb)).trans hdb, hP⟩, hM, hN, hb⟩
 rcases hk with h1 | h1 | h1
 ·exact .inl h1
 ·exact .inr (.inl ⟨hN k h1, hP.lts h1⟩)
 ·exact .inr (.inr h1)
end
end Go.Proofs.YtndkmgcmegcieaaGreatDoor
/-
  FOR PoolPlays: refused calls that answer ErrRange.
-/
namespace Go.Proofs.YtndkmgcmegcieaaGreatDoor
open Go.ChangeShapes Go.WideShapes Go.ChangeAt Go.RowKit Go.Deep
set_option linter.unusedVariables false
set_option linter.unusedSimpArgs false
set_option maxRecDepth 100000 in
set_option maxHeartbeats 8000000 in
theorem put_no_any (aid tid : Int) (hk : ¬ knownP aid tid) (g : Nat) (w : World) (E : Nat → Addr) (hS : Sent w E S14) (pi pf pa : Int) (A : Option Addr) (m c : Nat) :
 Calls Tryz.prog 10 #[.pointer (some ⟨g, 0, none⟩), .int .i64 aid, .agg #[.int .i64 pi, .int .u32 pf, .int .i64 tid, .int .i64 pa, .slice A m c]] w fun e w' => e = .returned (.tuple #[.slice none 0 0, errV E 103]) ∧ Below w.heap.size w w' := by
 have HB1 := Shut.mk ((Below.refl w.heap.size w).alloc (Nat.le_refl _) (Obj.cells #[Value.int .i64 pi, .int .u32 pf, .int .i64 tid, .int .i64 pa, Value.slice A m c] 35 (0, 0)))
 have he : (w.alloc (Obj.cells #[Value.int .i64 pi, .int .u32 pf, .int .i64 tid, .int .i64 pa, Value.slice A m c] 35 (0, 0))).cell? ⟨0, 0, none⟩ = some (errP (E 103)) := (hS.below HB1.out).at_ 103 (by decide)
 have HE := Shut.mk he
 have HX1 := Shut.mk (MapKept.heap_alloc w (Obj.cells #[Value.int .i64 pi, .int .u32 pf, .int .i64 tid, .int .i64 pa, Value.slice A m c] 35 (0, 0))).1
 have HK := Shut.mk hk
 clear hS he hk
 obtain ⟨s5, hs5⟩ : ∃ s, s = w.heap.size := ⟨_, rfl⟩
 rw [← hs5] at HX1
 have HS5 := Shut.mk hs5
 go_enter Tryz.func10, Tryz.ntmps10
 go_wp2_with (fail)
 rw [← hs5]
 clear hs5
 generalize World.alloc w _ = w1 at *
 refine (known_no HK.out w1).mono ?_
 rintro e wn ⟨rfl, rfl⟩
 have he := HE.out
 go_wp2_with (fail)
 go_quiet (fail)
 go_wp2_with (fail)
 go_ret2
 exact ⟨rfl, below_drewN HB1.out _⟩
set_option maxRecDepth 100000 in
set_option maxHeartbeats 8000000 in
theorem new_no_any (sd tg iv mp mb : Int) (hk : ¬ ((1 ≤ mp ∧ mp ≤ 512) ∧ (1 ≤ mb ∧ mb ≤ 1048576))) (w : World) (E : Nat → Addr) (hS : Sent w E S14) :
 Calls Tryz.prog 5 #[.int .u32 sd, .int .i64 tg, .int .i64 iv, .int .i64 mp, .int .i64 mb] w fun e w' => e = .returned (.tuple #[.pointer none, errV E 103]) ∧ Below w.heap.size w w' := by
 have he : w.cell? ⟨0, 0, none⟩ = some (errP (E 103)) := hS.at_ 103 (by decide)
 have HE := Shut.mk he
 clear hS he
 rcases (by omega : mp < 1 ∨ (1 ≤ mp ∧ 512 < mp) ∨ ((1 ≤ mp ∧ mp ≤ 512) ∧ mb < 1) ∨ ((1 ≤ mp ∧ mp ≤ 512) ∧ (1 ≤ mb ∧ 1048576 < mb))) with h1 | ⟨h1, h2⟩ | ⟨⟨h1, h2⟩, h3⟩ | ⟨⟨h1, h2⟩, h3, h4⟩
 ·clear hk
  go_enter Tryz.func5, Tryz.ntmps5
  have he := HE.out
  go_wp2_with (fail)
  go_quiet (fail)
  go_wp2_with (fail)
  go_ret2
  exact ⟨rfl, below_drewN (Below.refl _ _) _⟩
 ·have c1 : ¬ mp < 1 := by omega
  clear hk
  go_enter Tryz.func5, Tryz.ntmps5
  have he := HE.out
  go_wp2_with (fail)
  go_quiet (fail)
  go_wp2_with (fail)
  go_ret2
  exact ⟨rfl, below_drewN (Below.refl _ _) _⟩
 ·have c1 : ¬ mp < 1 := by omega
  have c2 : ¬ 512 < mp := by omega
  clear hk
  go_enter Tryz.func5, Tryz.ntmps5
  have he := HE.out
  go_wp2_with (fail)
  go_quiet (fail)
  go_wp2_with (fail)
  go_ret2
  exact ⟨rfl, below_drewN (Below.refl _ _) _⟩
 ·have c1 : ¬ mp < 1 := by omega
  have c2 : ¬ 512 < mp := by omega
  have c3 : ¬ mb < 1 := by omega
  clear hk
  go_enter Tryz.func5, Tryz.ntmps5
  have he := HE.out
  go_wp2_with (fail)
  go_quiet (fail)
  go_wp2_with (fail)
  go_ret2
  exact ⟨rfl, below_drewN (Below.refl _ _) _⟩
end Go.Proofs.YtndkmgcmegcieaaGreatDoor
/-
  FOR PoolPlays: Take and Drop of whatever station and identifier, each in one: what is answered, and how many stay.
-/
namespace Go.Proofs.YtndkmgcmegcieaaGreatDoor
open Go.ChangeShapes Go.WideShapes Go.ChangeAt Go.RowKit Go.Deep
set_option linter.unusedVariables false
set_option linter.unusedSimpArgs false
theorem takes_less {P : Pl} {q : Qu} {ds : List Pk} {r : Option Pk} {ds' : List Pk} {q' : Qu} (h : Takes P q ds r ds' q') : ∀ b, (q'.fl b).pk.length ≤ (q.fl b).pk.length := by
 induction h with
 | none _ => exact fun b => Nat.le_refl _
 | @turn q ds c nw r ds' q' _ _ _ ih =>
  intro b
  refine Nat.le_trans (ih b) ?_
  unfold turnQ
  dsimp only
  by_cases e : b = c
  ·subst e; rw [setF_same]; exact Nat.le_refl _
  ·rw [setF_other _ _ e]; exact Nat.le_refl _
 | @gone q ds c nw cd n r ds' q' _ _ _ _ ih =>
  intro b
  refine Nat.le_trans (ih b) ?_
  unfold goneQ
  dsimp only
  by_cases e : b = c
  ·subst e; rw [setF_same, List.length_drop]; omega
  ·rw [setF_other _ _ e]; exact Nat.le_refl _
 | @took q ds c nw cd n _ _ _ =>
  intro b
  unfold tookQ
  dsimp only
  by_cases e : b = c
  ·subst e; rw [setF_same, List.length_drop]; omega
  ·rw [setF_other _ _ e]; exact Nat.le_refl _
theorem allTo_less {q q' : Qu} (h : ∀ b, (q'.fl b).pk.length ≤ (q.fl b).pk.length) : ∀ n, (allTo q' n).length ≤ (allTo q n).length
 | 0 => Nat.le_refl _
 | n + 1 => by
  rw [allTo_succ, allTo_succ, List.length_append, List.length_append]
  have h1 := allTo_less h n
  have h2 := h n
  omega
theorem allP_less {M M' : Nat → Qu} (h : ∀ k, (allQ (M' k)).length ≤ (allQ (M k)).length) : ∀ n, (allP M' n).length ≤ (allP M n).length
 | 0 => Nat.le_refl _
 | n + 1 => by
  rw [allP_succ, allP_succ, List.length_append, List.length_append]
  have h1 := allP_less h n
  have h2 := h n
  omega
structure TkM (hd : Hd) (M : Nat → Qu) (aid tid now : Int) (r : Option Pk) (ds : List Pk) (M' : Nat → Qu) : Prop where
 yes : knownP aid tid → ∃ (a t : Nat) (q' : Qu), a < 16 ∧ t < 8 ∧ aid = (a : Int) + 1 ∧ tid = (t : Nat) ∧ Takes ⟨now, clampR hd.tg 0 1073741824, clampR hd.iv 0 1073741824⟩ (M (8 * a + t)) [] r ds q' ∧ M' = updF M (8 * a + t) q'
 no : ¬ knownP aid tid → r = none ∧ ds = [] ∧ M' = M
theorem tkm_is (hd : Hd) (M : Nat → Qu) (aid tid now : Int) (hI : ∀ k, k < 128 → InvQ (bkQ hd.seed) (M k)) : ∃ r ds M', TkM hd M aid tid now r ds M' := by
 by_cases hk : knownP aid tid
 ·obtain ⟨a, t, ha, ht, h1, h2⟩ := knownP_in hk
  obtain ⟨r, ds, q', hT⟩ := takes_is (bk := bkQ hd.seed) ⟨now, clampR hd.tg 0 1073741824, clampR hd.iv 0 1073741824⟩ (mu (M (8 * a + t)) + 1) (M (8 * a + t)) [] (Nat.lt_succ_self _) (hI _ (by omega))
  exact ⟨r, ds, updF M (8 * a + t) q', fun _ => ⟨a, t, q', ha, ht, h1, h2, hT, rfl⟩, fun h => absurd hk h⟩
 ·exact ⟨none, [], M, fun h => absurd h hk, fun _ => ⟨rfl, rfl, rfl⟩⟩
theorem tkm_len {hd : Hd} {M : Nat → Qu} {aid tid now : Int} {r : Option Pk} {ds : List Pk} {M' : Nat → Qu} (h : TkM hd M aid tid now r ds M') (hI : ∀ k, k < 128 → InvQ (bkQ hd.seed) (M k)) (hF : ∀ k, k < 128 → FewC (M k)) :
 ds.length ≤ 16000 ∧ (allP M' 128).length ≤ (allP M 128).length := by
 by_cases hk : knownP aid tid
 ·obtain ⟨a, t, q', ha, ht, h1, h2, hT, rfl⟩ := h.yes hk
  refine ⟨takes_len hT (hI _ (by omega)) (bkQ_lt hd.seed) (hF _ (by omega)), allP_less (fun k => ?_) 128⟩
  by_cases e : k = 8 * a + t
  ·subst e; rw [updF_same]; exact allTo_less (takes_less hT) 16
  ·rw [updF_other _ _ e]; exact Nat.le_refl _
 ·obtain ⟨-, rfl, rfl⟩ := h.no hk
  exact ⟨Nat.zero_le _, Nat.le_refl _⟩
structure DrM (M : Nat → Qu) (aid : Int) (ds : List Pk) (M' : Nat → Qu) : Prop where
 yes : (1 ≤ aid ∧ aid ≤ 16) → ∃ a : Nat, a < 16 ∧ aid = (a : Int) + 1 ∧ ds = dropA M a 8 ∧ M' = clrM M a 8
 no : ¬ (1 ≤ aid ∧ aid ≤ 16) → ds = [] ∧ M' = M
theorem drm_is (M : Nat → Qu) (aid : Int) : ∃ ds M', DrM M aid ds M' := by
 by_cases hk : 1 ≤ aid ∧ aid ≤ 16
 ·exact ⟨_, _, fun _ => ⟨(aid - 1).toNat, by omega, by omega, rfl, rfl⟩, fun h => absurd hk h⟩
 ·exact ⟨[], M, fun h => absurd h hk, fun _ => ⟨rfl, rfl⟩⟩
theorem drm_len {M : Nat → Qu} {aid : Int} {ds : List Pk} {M' : Nat → Qu} (h : DrM M aid ds M') : ds.length ≤ (allP M 128).length ∧ (allP M' 128).length ≤ (allP M 128).length := by
 by_cases hk : 1 ≤ aid ∧ aid ≤ 16
 ·obtain ⟨a, ha, -, rfl, rfl⟩ := h.yes hk
  have := (all_drops M ha 8 (Nat.le_refl _)).length_eq
  rw [List.length_append] at this
  omega
 ·obtain ⟨rfl, rfl⟩ := h.no hk
  exact ⟨Nat.zero_le _, Nat.le_refl _⟩
theorem Late.nil (N : Nat → Prop) (w : World) : Late (fun _ => False) N w [] (.slice none 0 0) none 0 := ⟨rfl, RowK.nil _ _ _, fun a h => by cases h⟩
section
variable {w0 w : World} {g gr gz : Nat} {hd : Hd} {gd : Nat} {dc : Array Value} {T T2 T0 : Nat → Prop} {X Y Z : Nat → Option Qs}
theorem qtk_c (h : QPd w0 g gr hd gd dc gz T0 Z w T T2 X Y) (aid tid now : Int) (h0 : 0 ≤ now) (hM : now + 1073741824 ≤ 4503599627370496) (r : Option Pk) (ds : List Pk) (M' : Nat → Qu) (ht : TkM hd (mOf X) aid tid now r ds M') :
 Calls Tryz.prog 14 #[.pointer (some ⟨g, 0, none⟩), .int .i64 aid, .int .i64 tid, .int .i64 now] w fun e w' => ∃ X' p0 b v late T3 A' c, QPd w0 g gr hd gd dc gz T0 Z w' T T2 X' Y ∧ mOf X' = M' ∧ e = .returned (.tuple #[pkV p0 v, late, .bool b]) ∧ AnsP (New w w') w' r p0 b v ∧ Late T3 (New w w') w' ds late A' c ∧ (∀ k, T3 k → New w w' k) ∧ w.heap.size ≤ w'.heap.size := by
 by_cases hk : knownP aid tid
 ·obtain ⟨a, t, q', ha, htt, h1, h2, hT, rfl⟩ := ht.yes hk
  exact qtake_c h a t ha htt aid tid h1 h2 now h0 hM r ds q' hT
 ·obtain ⟨rfl, rfl, rfl⟩ := ht.no hk
  refine (take_p_no w g aid tid now hk).mono ?_
  rintro e w' ⟨rfl, hb⟩
  exact ⟨X, pk00.1, false, _, _, fun _ => False, none, 0, h.quiet hb, rfl, rfl, AnsP.none_ _ _, Late.nil _ _, fun _ e => e.elim, hb.size⟩
theorem qtk_r (h : QPd w0 g gr hd gd dc gz T0 Z w T T2 X Y) (hf : FullR Y) (aid tid now : Int) (h0 : 0 ≤ now) (hM : now + 1073741824 ≤ 4503599627370496) (r : Option Pk) (ds : List Pk) (M' : Nat → Qu) (ht : TkM hd (mR Y) aid tid now r ds M') :
 Calls Tryz.prog 15 #[.pointer (some ⟨gr, 0, none⟩), .int .i64 aid, .int .i64 tid, .int .i64 now] w fun e w' => ∃ Y' p0 b v late T4 A' c, QPd w0 g gr hd gd dc gz T0 Z w' T T2 X Y' ∧ FullR Y' ∧ mR Y' = M' ∧ e = .returned (.tuple #[pkV p0 v, late, .bool b]) ∧ AnsP T2 w' r p0 b v ∧ Late T4 (New w w') w' ds late A' c ∧ Only (FootL gr Y) w w' := by
 by_cases hk : knownP aid tid
 ·obtain ⟨a, t, q', ha, htt, h1, h2, hT, rfl⟩ := ht.yes hk
  refine (qtake_r h hf a t ha htt aid tid h1 h2 now h0 hM r ds q' hT).mono ?_
  rintro e w' ⟨Y', p0, b, v, late, A', c, k1, k2, k3, k4, k5, k6, k7⟩
  exact ⟨Y', p0, b, v, late, T2, A', c, k1, k2, k3, k4, k5, k6, k7⟩
 ·obtain ⟨rfl, rfl, rfl⟩ := ht.no hk
  refine (reftake_p_no w gr aid tid now hk).mono ?_
  rintro e w' ⟨rfl, hb⟩
  exact ⟨Y, pk00.1, false, _, _, fun _ => False, none, 0, h.quiet hb, hf, rfl, rfl, AnsP.none_ _ _, Late.nil _ _, Only.of_quiet hb⟩
theorem qdr_c (h : QPd w0 g gr hd gd dc gz T0 Z w T T2 X Y) (aid : Int) (hl : (allP (mOf X) 128).length ≤ 1000) (ds : List Pk) (M' : Nat → Qu) (hm : DrM (mOf X) aid ds M') :
 Calls Tryz.prog 17 #[.pointer (some ⟨g, 0, none⟩), .int .i64 aid] w fun e w' => ∃ X' u T3 A' c, QPd w0 g gr hd gd dc gz T0 Z w' T T2 X' Y ∧ e = .returned u ∧ mOf X' = M' ∧ Late T3 (New w w') w' ds u A' c ∧ (∀ k, T3 k → New w w' k) ∧ w.heap.size ≤ w'.heap.size := by
 by_cases hk : 1 ≤ aid ∧ aid ≤ 16
 ·obtain ⟨a, ha, h1, rfl, rfl⟩ := hm.yes hk
  exact qdrop_c h a ha aid h1 hl
 ·obtain ⟨rfl, rfl⟩ := hm.no hk
  refine (drop_p_no w g aid (fun t e => hk e.1)).mono ?_
  rintro e w' ⟨rfl, rfl⟩
  exact ⟨X, _, fun _ => False, none, 0, h, rfl, rfl, Late.nil _ _, fun _ e => e.elim, Nat.le_refl _⟩
theorem qdr_r (h : QPd w0 g gr hd gd dc gz T0 Z w T T2 X Y) (hf : FullR Y) (aid : Int) (hl : (allP (mR Y) 128).length ≤ 1000) (ds : List Pk) (M' : Nat → Qu) (hm : DrM (mR Y) aid ds M') :
 Calls Tryz.prog 18 #[.pointer (some ⟨gr, 0, none⟩), .int .i64 aid] w fun e w' => ∃ Y' u T4 A' c, QPd w0 g gr hd gd dc gz T0 Z w' T T2 X Y' ∧ FullR Y' ∧ e = .returned u ∧ mR Y' = M' ∧ Late T4 (New w w') w' ds u A' c ∧ Only (FootL gr Y) w w' := by
 by_cases hk : 1 ≤ aid ∧ aid ≤ 16
 ·obtain ⟨a, ha, h1, rfl, rfl⟩ := hm.yes hk
  refine (qdrop_r h hf a ha aid h1 hl).mono ?_
  rintro e w' ⟨Y', u, A', c, k1, k2, k3, k4, k5, k6⟩
  exact ⟨Y', u, T2, A', c, k1, k2, k3, k4, k5, k6⟩
 ·obtain ⟨rfl, rfl⟩ := hm.no hk
  refine (refdrop_p_no w gr aid (fun t e => hk e.1)).mono ?_
  rintro e w' ⟨rfl, rfl⟩
  exact ⟨Y, _, fun _ => False, none, 0, h, hf, rfl, rfl, Late.nil _ _, Only.refl _ _⟩
end
theorem bool_of (P : Prop) : ∃ b : Bool, (b = true ↔ P) := ⟨@decide P (Classical.propDecidable P), by simp⟩
end Go.Proofs.YtndkmgcmegcieaaGreatDoor
