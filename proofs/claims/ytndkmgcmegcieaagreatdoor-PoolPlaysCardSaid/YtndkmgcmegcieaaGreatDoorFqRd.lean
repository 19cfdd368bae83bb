/-
  THE REFERENCE's QUEUE: DropHead.
-/
import Derived.Test.YtndkmgcmegcieaaGreatDoorFqRc
import Derived.Test.YtndkmgcmegcieaaGreatDoorMgC
namespace Go.Proofs.YtndkmgcmegcieaaGreatDoor
open Go.ChangeShapes Go.WideShapes Go.ChangeAt Go.RowKit Go.Deep
set_option linter.unusedVariables false
set_option linter.unusedSimpArgs false
theorem ownsP_new {T : Nat → Prop} {w : World} {B : Nat} {v : Value} {l : List Pk} (h : OwnP T w B v l) : ∀ g, v.ownBlock = some g → B ≤ g := fun g hg => by
 obtain ⟨l', h1, -⟩ := h
 exact (World.ownsRow.lt h1.1 g hg).1
theorem ownsP_one {T : Nat → Prop} {w : World} {B : Nat} {v : Value} {l : List Pk} (h : OwnP T w B v l) : v.oneCell' = true := by
 obtain ⟨l', h1, -⟩ := h
 exact owns_onecell h1.1
theorem RqS.over {T T' S : Nat → Prop} {w w' w2 : World} {x : Rq} {V V' : Nat → Value} (h : RqS T w x V T' w' V') (ho : Only S w' w2) (hS : ∀ k, S k → w.heap.size ≤ k) : RqS T w x V T' w2 V' :=
 ⟨h.only.trans ho fun i hi e => by have := hS i e; omega, h.fresh, h.ft, h.tt⟩
end Go.Proofs.YtndkmgcmegcieaaGreatDoor
