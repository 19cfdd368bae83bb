/-
  POOL IN A LAW: all of it in new memory; New, Put; the chapter's examples.
-/
import Derived.Test.YtndkmgcmegcieaaGreatDoorPoolF
namespace Go.Proofs.YtndkmgcmegcieaaGreatDoor
open Go.ChangeShapes Go.WideShapes Go.ChangeAt Go.RowKit Go.Deep
set_option linter.unusedVariables false
set_option linter.unusedSimpArgs false
def X0 : Nat → Option Qs := fun _ => none
def M0 : Nat → Qu := fun _ => quZ
theorem mOf_X0 : mOf X0 = M0 := rfl
theorem allP_M0 : ∀ n, allP M0 n = []
 | 0 => rfl
 | n + 1 => by rw [allP_succ, allP_M0 n]; exact allQ_Z
theorem is_X0 {w : World} {g : Nat} {h : Hd} (hb : w.heap[g]? = some (.cells (plC h X0).toArray 57 (0, 0))) : IsPool (fun _ => False) w g h X0 :=
 ⟨hb, fun k _ s hs => (by cases hs), fun k _ j _ _ s t hs => (by cases hs), fun k _ s hs => (by cases hs), fun h => h, fun k h => h.elim⟩
set_option maxRecDepth 100000 in
set_option maxHeartbeats 8000000 in
theorem new_p_any (h : Hd) (w : World) (hm : 1 ≤ h.mp ∧ h.mp ≤ 512) (hb : 1 ≤ h.mb ∧ h.mb ≤ 1048576) :
 Calls Tryz.prog 5 #[.int .u32 (uv h.seed), .int .i64 h.tg, .int .i64 h.iv, .int .i64 h.mp, .int .i64 h.mb] w fun e w' => e = .returned (.tuple #[.pointer (some ⟨w.heap.size, 0, none⟩), .nilIface]) ∧ IsPool (fun _ => False) w' w.heap.size h X0 ∧ Below w.heap.size w w' := by
 have HB := Shut.mk ((Below.refl w.heap.size w).alloc (Nat.le_refl _) (.cells (plC h X0).toArray 57 (0, 0)))
 have HX := Shut.mk (is_X0 (MapKept.heap_alloc w (.cells (plC h X0).toArray 57 (0, 0))).1)
 obtain ⟨sd, tg, iv, mp, mb⟩ := h
 dsimp only at hm hb ⊢
 obtain ⟨m1, m2⟩ := hm
 obtain ⟨b1, b2⟩ := hb
 have c1 : ¬ mp < 1 := by omega
 have c2 : ¬ 512 < mp := by omega
 have c3 : ¬ mb < 1 := by omega
 have c4 : ¬ 1048576 < mb := by omega
 clear m1 m2 b1 b2
 go_enter Tryz.func5, Tryz.ntmps5
 go_wp2
 go_ret2
 exact ⟨rfl, HX.out, HB.out⟩
structure PW (w0 : World) (g : Nat) (h : Hd) (T : Nat → Prop) (w : World) (X : Nat → Option Qs) : Prop where
 is : IsPool T w g h X
 bel : Below w0.heap.size w0 w
 new : ∀ k, FootP g X k → w0.heap.size ≤ k
section
variable {w0 w w' : World} {g : Nat} {h : Hd} {T T' : Nat → Prop} {X X' : Nat → Option Qs}
theorem PW.quiet (p : PW w0 g h T w X) (hb : Below w.heap.size w w') : PW w0 g h T w' X := ⟨p.is.quiet hb, p.bel.trans (hb.mono p.bel.size), p.new⟩
theorem PW.call (p : PW w0 g h T w X) (hP : IsPool T' w' g h X') (hS : PlS T w g X T' w' X') : PW w0 g h T' w' X' :=
 ⟨hP, p.bel.trans (hS.only.below (fun i hi e => by have := p.new i e; omega) p.bel.size), fun k hk => by
   rcases hS.fresh k hk with h1 | h1
   ·exact p.new k h1
   ·exact Nat.le_trans p.bel.size h1⟩
theorem PW.start {g : Nat} (hw : Below w0.heap.size w0 w) (hg : g = w.heap.size) (hP : IsPool (fun _ => False) w' g h X0) (hB : Below w.heap.size w w') : PW w0 g h (fun _ => False) w' X0 :=
 ⟨hP, hw.trans (hB.mono hw.size), fun k hk => by
   rcases hk with e | ⟨j, s, hj, hs, e⟩
   ·have := hw.size; omega
   ·cases hs⟩
theorem PW.only {S : Nat → Prop} (p : PW w0 g h T w X) (ho : Only S w w') (hf : ∀ k, FootP g X k → ¬ S k) (ht : ∀ k, T k → ¬ S k) (hw : ∀ k, S k → w0.heap.size ≤ k) : PW w0 g h T w' X :=
 ⟨p.is.only ho hf ht, p.bel.trans (ho.below (fun i hi e => by have := hw i e; omega) p.bel.size), p.new⟩
end
theorem pput {w0 w : World} {g : Nat} {hd : Hd} {T : Nat → Prop} {X : Nat → Option Qs} (h : PW w0 g hd T w X) (hmp : 1 ≤ hd.mp ∧ 1 ≤ hd.mb) (a t : Nat) (ha : a < 16) (ht : t < 8) (aid tid : Int) (hai : aid = (a : Int) + 1) (hti : tid = (t : Nat)) (pi pf pa : Int) (pb : List Int) (A : Option Addr) (m cp : Nat) (hb : RowB .u8 w A m pb) (hm : m ≤ 1000000)
 (hf : 0 ≤ pf ∧ pf ≤ 4294967295) (hat : 0 ≤ pa ∧ pa ≤ 4503599627370496) (hl : (allP (mOf X) 128).length ≤ 900) (hnb : 0 < m → ∀ p, A = some p → ¬ FootP g X p.block) :
 Calls Tryz.prog 10 #[.pointer (some ⟨g, 0, none⟩), .int .i64 aid, .agg #[.int .i64 pi, .int .u32 pf, .int .i64 tid, .int .i64 pa, .slice A m cp]] w fun e w' => ∃ u T' T2 X' ds, e = .returned (.tuple #[u, .nilIface]) ∧ PW w0 g hd T' w' X' ∧ PlS T w g X T' w' X' ∧ OwnP T2 w' w.heap.size u ds ∧ (∀ i, T2 i → w.heap.size ≤ i ∧ i < w'.heap.size) ∧ (∀ i, FootP g X' i → u.ownBlock ≠ some i ∧ ¬ T2 i) ∧
  Shr hd.mp hd.mb (updF (mOf X) (8 * a + t) (putQ (bkQ hd.seed) (mOf X (8 * a + t)) ⟨pi, pf, (t : Nat), pa, pb⟩)) ds (mOf X') := by
 subst hai
 subst hti
 refine (put_in_any h.is hmp a t ha ht pi pf pa pb A m cp hb hm hf hat hl hnb).mono ?_
 rintro e w' ⟨u, T', T2, X', ds, he, hP, hS, hO, hT, hA, hR⟩
 exact ⟨u, T', T2, X', ds, he, h.call hP hS, hS, hO, hT, hA, hR⟩
end Go.Proofs.YtndkmgcmegcieaaGreatDoor
