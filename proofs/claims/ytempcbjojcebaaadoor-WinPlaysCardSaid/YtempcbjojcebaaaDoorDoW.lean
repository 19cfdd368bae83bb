/-
  WHAT A LAW OF CHAPTER 15 IS GIVEN: a slice of pairs; contract of muezzinlaw15.first.
-/
import Derived.Test.YtempcbjojcebaaaDoorWinC
import Derived.Test.YtempcbjojcebaaaDoorOpenI
namespace Go.Proofs.YtempcbjojcebaaaDoor
open Go.ChangeShapes Go.WideShapes Go.ChangeAt Go.RowKit Go.Deep
set_option linter.unusedVariables false
set_option linter.unusedSimpArgs false

def doC (u : Int × Int) : List Value := [.int .i64 u.1, .int .i64 u.2]
def okDo2 (u : Int × Int) : Prop := ∃ a b, u = (a, b) ∧ (Lit.int .i64 a).wf = true ∧ (Lit.int .i64 b).wf = true
set_option maxRecDepth 100000 in
set_option maxHeartbeats 4000000 in
theorem first_any (w : World) : Calls Tryd.prog 7 #[] w fun e w' => e = .returned (.bool true) ∧ Below w.heap.size w w' := by
  go_enter Tryd.func7, Tryd.ntmps7
  go_wp2_with (fail)
  refine (new_ok 5 1 (by decide) (by decide) (by decide) w).mono ?_
  rintro e w1 ⟨rfl, hx, hb⟩
  have HX := Shut.mk hx
  have HB := Shut.mk hb
  have HG := Shut.mk (lt_blk hx)
  obtain ⟨g, hg⟩ : ∃ g, g = w.heap.size := ⟨_, rfl⟩
  rw [← hg] at HX HG ⊢
  have HGG := Shut.mk hg
  clear hx hb hg
  go_wp2_with (fail)
  refine (next_ok g _ w1 HX.out (inv_new (by decide) (by decide) (by decide)) (by decide)).mono ?_
  rintro e w2 ⟨rfl, hx, ho⟩
  have HX2 := Shut.mk hx
  have HB2 := Shut.mk (HB.out.trans (ho.below (B := w.heap.size) (fun i hi e => by have := HGG.out; omega) HB.out.size))
  rw [show nmW (newW 5 1) (newW 5 1).gv = 5 by decide]
  clear hx ho
  go_wp2_with (fail)
  refine (next_no g _ w2 HX2.out (inv_next (inv_new (by decide) (by decide) (by decide)) (by decide)) (by decide)).mono ?_
  rintro e w3 ⟨rfl, n, hn⟩
  have HB3 := Shut.mk (show Below w.heap.size w w3 by rw [hn]; exact below_drewN HB2.out n)
  clear hn
  go_wp2_with (fail)
  go_ret
  exact ⟨rfl, HB3.out⟩
end Go.Proofs.YtempcbjojcebaaaDoor
