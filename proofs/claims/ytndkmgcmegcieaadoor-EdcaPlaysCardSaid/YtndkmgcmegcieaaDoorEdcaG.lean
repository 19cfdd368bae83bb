/-
  WHAT A LAW OF CHAPTER 18 CALLS: an object of its own, told by its model; muezzinlaw18.first.
-/
import Derived.Test.YtndkmgcmegcieaaDoorEdcaF
namespace Go.Proofs.YtndkmgcmegcieaaDoor
open Go.ChangeShapes Go.WideShapes Go.ChangeAt Go.RowKit Go.Deep
set_option linter.unusedVariables false
set_option linter.unusedSimpArgs false


theorem e0_cells : ∀ a, a < 4 → (0 : Int) = bE e0 a ∧ (0 : Int) = kE e0 a ∧ false = hE e0 a := by
  intro a ha
  match a, ha with
  | 0, _ | 1, _ | 2, _ | 3, _ => decide
theorem ed_zero (w : World) : IsEd (w.alloc (Obj.cells #[.int .i64 0, .int .i64 0, .int .i64 0, .int .i64 0, .int .i64 0, .int .i64 0, .int .i64 0, .int .i64 0, .bool false, .bool false, .bool false, .bool false] 28 (0, 0))) w.heap.size e0 :=
  At12.to (b := fun _ => 0) (k := fun _ => 0) (h := fun _ => false) (MapKept.heap_alloc w (Obj.cells #[.int .i64 0, .int .i64 0, .int .i64 0, .int .i64 0, .int .i64 0, .int .i64 0, .int .i64 0, .int .i64 0, .bool false, .bool false, .bool false, .bool false] 28 (0, 0))).1 e0_cells
theorem re_zero (w : World) : IsRe (w.alloc (Obj.cells #[.int .i64 0, .int .i64 0, .int .i64 0, .int .i64 0, .int .i64 0, .int .i64 0, .int .i64 0, .int .i64 0] 31 (0, 0))) w.heap.size e0 :=
  At8.to (b := fun _ => 0) (k := fun _ => 0) (MapKept.heap_alloc w (Obj.cells #[.int .i64 0, .int .i64 0, .int .i64 0, .int .i64 0, .int .i64 0, .int .i64 0, .int .i64 0, .int .i64 0] 31 (0, 0))).1 (fun a ha => ⟨rfl, rfl⟩)
/-- a law's own object. -/
structure LawE (w0 w : World) (g : Nat) (e : Ec) : Prop where
  ed : IsEd w g e
  inv : InvE e
  bel : Below w0.heap.size w0 w
  new : w0.heap.size ≤ g
  rul : Rul w
theorem LawE.zero {w0 w : World} (hb : Below w0.heap.size w0 w) (hR : Rul w0) : LawE w0 (w.alloc (Obj.cells #[.int .i64 0, .int .i64 0, .int .i64 0, .int .i64 0, .int .i64 0, .int .i64 0, .int .i64 0, .int .i64 0, .bool false, .bool false, .bool false, .bool false] 28 (0, 0))) w.heap.size e0 where
  ed := ed_zero w
  inv := inv_e0
  bel := hb.alloc hb.size _
  new := hb.size
  rul := hR.below (hb.alloc hb.size _)
theorem LawE.quiet {w0 w w' : World} {g : Nat} {e : Ec} (h : LawE w0 w g e) (hb : Below w.heap.size w w') : LawE w0 w' g e :=
  ⟨h.ed.below hb, h.inv, h.bel.trans (hb.mono h.bel.size), h.new, h.rul.below hb⟩
theorem LawE.like {w0 w : World} {g : Nat} {e e' : Ec} (h : LawE w0 w g e) (hl : Like e e') (hi : InvE e') : LawE w0 w g e' := ⟨h.ed.like hl, hi, h.bel, h.new, h.rul⟩
theorem LawE.step {w0 w w' : World} {g : Nat} {e e' : Ec} (h : LawE w0 w g e) (hg : IsEd w' g e') (hi : InvE e') (ho : Only (· = g) w w') : LawE w0 w' g e' :=
  ⟨hg, hi, h.bel.trans (ho.below (fun i hi e => by have := h.new; omega) h.bel.size), h.new, h.rul.only ho (rul_ne h.rul h.ed)⟩
section
variable {w0 w : World} {g : Nat} {e : Ec}
theorem contend_l (h : LawE w0 w g e) (r : Nat → Bool) (d : Nat → Nat) (hd : ∀ a, a < 4 → d a < 4294967296) :
    Calls Tryd.prog 10 #[.pointer (some ⟨g, 0, none⟩), bA r, uA d] w fun x w' => x = .returned (ansE (contE e r d).2) ∧ LawE w0 w' g (contE e r d).1 ∧ Only (· = g) w w' :=
  (contend_any g e r d w h.ed h.rul h.inv hd).mono fun _ _ ⟨h1, h2, h3⟩ => ⟨h1, h.step h2 (h.inv.cont r d) h3, h3⟩
theorem end_l (h : LawE w0 w g e) (a : Nat) (ha : a < 4) (well : Bool) :
    Calls Tryd.prog 13 #[.pointer (some ⟨g, 0, none⟩), .int .i64 (a : Nat), .bool well] w fun x w' => x = .returned .nilIface ∧ LawE w0 w' g (endE e a well) ∧ Only (· = g) w w' :=
  (end_in g e a well w h.ed h.rul ha h.inv).mono fun _ _ ⟨h1, h2, h3⟩ => ⟨h1, h.step h2 (h.inv.end a well) h3, h3⟩
theorem window_l (h : LawE w0 w g e) (a : Nat) (ha : a < 4) :
    Calls Tryd.prog 9 #[.pointer (some ⟨g, 0, none⟩), .int .i64 (a : Nat)] w fun x w' => x = .returned (.int .i64 ((winE e a : Nat) : Int)) ∧ LawE w0 w' g e ∧ Below w.heap.size w w' :=
  (window_in g e a w h.ed h.rul ha h.inv).mono fun _ _ ⟨h1, h2⟩ => ⟨h1, h.quiet h2, h2⟩
end
set_option maxRecDepth 100000 in
set_option maxHeartbeats 8000000 in
theorem first_any (w : World) (hR : Rul w) : Calls Tryd.prog 7 #[] w fun e w' => e = .returned (.bool true) ∧ Below w.heap.size w w' := by
  have HL := Shut.mk (LawE.zero (Below.refl w.heap.size w) hR)
  have HC := Shut.mk (contend_l HL.out (fun i => decide (i = 1)) (fun _ => 0) (fun _ _ => by decide))
  have HA := Shut.mk (show (contE e0 (fun i => decide (i = 1)) (fun _ => 0)).2 = some (1, 3) from (alone_cont (alone_0 1) (by decide) (fun b hb => by simp) (fun _ => 0)).1)
  clear hR
  go_enter Tryd.func7, Tryd.ntmps7
  go_wp2_with (fail)
  refine (show Calls Tryd.prog 10 #[.pointer (some ⟨w.heap.size, 0, none⟩), .agg #[.bool false, .bool true, .bool false, .bool false], .agg #[.int .u32 0, .int .u32 0, .int .u32 0, .int .u32 0]] _ _ from HC.out).mono ?_
  rintro x w2 ⟨rfl, hL, -⟩
  have HB := Shut.mk hL.bel
  rw [HA.out, ans_some]
  clear hL
  go_wp2_with (fail)
  go_ret
  exact ⟨rfl, HB.out⟩
end Go.Proofs.YtndkmgcmegcieaaDoor
