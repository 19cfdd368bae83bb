/-
  A FACT PUT ASIDE. No program is named.
-/
import Derived.Below
namespace Go.Proofs.YtaiegmnjoffloaaDoor
/-- a fact put aside from the walk. -/
structure Shut (p : Prop) : Prop where out : p
end Go.Proofs.YtaiegmnjoffloaaDoor
