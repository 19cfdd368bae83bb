/-
  No cell of these rows narrows 'for every input' (looked for: loops, veiled, ifaces, maps, wideKeys, modest, calm, conditions, laid).
  DERIVED. THE GIVEN ROWS OF THIS SEAT. 4 by the template 'for every input the law returns true; each argument reads behind the call as it read before'; 0 by the template 'total and deterministic' (their statements: YtebeclebpabkaaaTotals.lean).
  GIVEN WITH THE SEED: the statements are not yours to turn. If you find one false, say at which input.
  Laid BY PROGRAM, IN A SANDBOX (cutbox-rows.mjs): the forced cells as the released guide's own fill.sh prints them over the translation 517a6e72c69fc4d5… (all of the seat's roots in one cut). By AI agents, Wed Nov 11 2026. No macro, syntax, notation, axiom, sorry.
-/
import Derived.Test.YtebeclebpabkaaaChecked
import GoSem.Claim
import GoSem.ClaimJoined
import GoSem.ClaimMapViews
import Derived.JoinedTies
import Derived.KernelRfl
namespace Go.Proofs.Ytebeclebpabkaaa
/- THE CELL 'sum', in the pinned program and in every row, IS THE sha256 OF THE DUMP (.gsa) THAT YtebeclebpabkaaaProg.lean LOADS. Nothing in Lean hashes anything: it is a label: what it is worth is what the hold of that sum in a sandbox is worth. -/
noncomputable def Try.pinned : Pinned := { name := "ytebeclebpabkaaa", sum := "517a6e72c69fc4d53d4b00fcd7da15551c0219814774d1e34f36cd5bff072a84", checked := Try.checked }
namespace Rows
def none {H : Type} : Left H := { results := [], args := [] }

/-- 'muezzinlaw10.InvSays': WHATEVER THE INPUT: true; the input reads as it did. -/
def invSaysSpec : ChangeSpec := { name := "invSays", fn := fun _ => fun
  | [d1, d2, d3, d4] => { results := [.lit (.bool true)], args := [d1, d2, d3, d4] }
  | _ => none }
def invSaysRow : OpenClaim := { program := "ytebeclebpabkaaa", sum := "517a6e72c69fc4d53d4b00fcd7da15551c0219814774d1e34f36cd5bff072a84", func := "muezzin/muezzinlaw10.InvSays", spec := "invSays", named := ["math/bits.divideError", "math/bits.overflowError"], apart := false }
def InvSaysSaid : Prop := invSaysRow.holds Try.pinned (OpenSpec.ofChange invSaysSpec)

/-- ITS FALSE NEIGHBOUR: 'it returns false'. Refute it at one input. -/
def invSaysWrong : ChangeSpec := { name := "invSays", fn := fun _ => fun
  | [d1, d2, d3, d4] => { results := [.lit (.bool false)], args := [d1, d2, d3, d4] }
  | _ => none }
def InvSaysWrongFalsely : Prop := invSaysRow.holds Try.pinned (OpenSpec.ofChange invSaysWrong)

/-- 'muezzinlaw10.InvRoots': WHATEVER THE INPUT: true; the input reads as it did. -/
def invRootsSpec : ChangeSpec := { name := "invRoots", fn := fun _ => fun
  | [d] => { results := [.lit (.bool true)], args := [d] }
  | _ => none }
def invRootsRow : OpenClaim := { program := "ytebeclebpabkaaa", sum := "517a6e72c69fc4d53d4b00fcd7da15551c0219814774d1e34f36cd5bff072a84", func := "muezzin/muezzinlaw10.InvRoots", spec := "invRoots", named := ["math/bits.divideError", "math/bits.overflowError"], apart := false }
def InvRootsSaid : Prop := invRootsRow.holds Try.pinned (OpenSpec.ofChange invRootsSpec)

/-- ITS FALSE NEIGHBOUR: 'it returns false'. Refute it at one input. -/
def invRootsWrong : ChangeSpec := { name := "invRoots", fn := fun _ => fun
  | [d] => { results := [.lit (.bool false)], args := [d] }
  | _ => none }
def InvRootsWrongFalsely : Prop := invRootsRow.holds Try.pinned (OpenSpec.ofChange invRootsWrong)

/-- 'muezzinlaw10.InvFalls': WHATEVER THE INPUT: true; the input reads as it did. -/
def invFallsSpec : ChangeSpec := { name := "invFalls", fn := fun _ => fun
  | [d1, d2, d3, d4] => { results := [.lit (.bool true)], args := [d1, d2, d3, d4] }
  | _ => none }
def invFallsRow : OpenClaim := { program := "ytebeclebpabkaaa", sum := "517a6e72c69fc4d53d4b00fcd7da15551c0219814774d1e34f36cd5bff072a84", func := "muezzin/muezzinlaw10.InvFalls", spec := "invFalls", named := ["math/bits.divideError", "math/bits.overflowError"], apart := false }
def InvFallsSaid : Prop := invFallsRow.holds Try.pinned (OpenSpec.ofChange invFallsSpec)

/-- ITS FALSE NEIGHBOUR: 'it returns false'. Refute it at one input. -/
def invFallsWrong : ChangeSpec := { name := "invFalls", fn := fun _ => fun
  | [d1, d2, d3, d4] => { results := [.lit (.bool false)], args := [d1, d2, d3, d4] }
  | _ => none }
def InvFallsWrongFalsely : Prop := invFallsRow.holds Try.pinned (OpenSpec.ofChange invFallsWrong)

/-- 'muezzinlaw10.InvPowers': WHATEVER THE INPUT: true; the input reads as it did. -/
def invPowersSpec : ChangeSpec := { name := "invPowers", fn := fun _ => fun
  | [d1, d2, d3] => { results := [.lit (.bool true)], args := [d1, d2, d3] }
  | _ => none }
def invPowersRow : OpenClaim := { program := "ytebeclebpabkaaa", sum := "517a6e72c69fc4d53d4b00fcd7da15551c0219814774d1e34f36cd5bff072a84", func := "muezzin/muezzinlaw10.InvPowers", spec := "invPowers", named := ["math/bits.divideError", "math/bits.overflowError"], apart := false }
def InvPowersSaid : Prop := invPowersRow.holds Try.pinned (OpenSpec.ofChange invPowersSpec)

/-- ITS FALSE NEIGHBOUR: 'it returns false'. Refute it at one input. -/
def invPowersWrong : ChangeSpec := { name := "invPowers", fn := fun _ => fun
  | [d1, d2, d3] => { results := [.lit (.bool false)], args := [d1, d2, d3] }
  | _ => none }
def InvPowersWrongFalsely : Prop := invPowersRow.holds Try.pinned (OpenSpec.ofChange invPowersWrong)

/- THE SECOND FORM. 'bulk': how many values and letters a reading holds, each counted each time it is reached (what is shared counts as often as it is met; a slice's spare places count too). A statement '..UptoSaid' is the law's where the arguments, and the package variables that the reading takes, are together of bulk at most 1048576: NARROWER than '..Said'. Prove '..Said' where nothing that the law and all that it calls make is longer than what came in: it says more and counts as full. Else prove '..UptoSaid'. A law counts once. -/
mutual
def uptoBulk {H : Type} : DataW H → Nat
  | .lit (.string bytes) => bytes.length + 1
  | .lit _ => 1
  | .nil => 1
  | .ptr d => uptoBulk d + 1
  | .slice elems spare => uptoBulkAll elems + uptoBulkAll spare + 1
  | .agg parts => uptoBulkAll parts + 1
  | .iface _ d => uptoBulk d + 1
  | .map entries => uptoBulkEntries entries + 1
  | .held _ => 1
def uptoBulkAll {H : Type} : List (DataW H) → Nat
  | [] => 0
  | d :: r => uptoBulk d + uptoBulkAll r
def uptoBulkEntries {H : Type} : List (Lit × DataW H) → Nat
  | [] => 0
  | x :: r => uptoBulkEntry x + uptoBulkEntries r
def uptoBulkEntry {H : Type} : Lit × DataW H → Nat
  | (.string bytes, d) => bytes.length + uptoBulk d + 1
  | (_, d) => uptoBulk d + 1
 end
def uptoSmall : (H : Type) → List (DataW H) → Bool := fun _ ds => decide (uptoBulkAll ds ≤ 1048576)
def OpenSpec.upto (s : _root_.Go.ChangeSpec) : _root_.Go.OpenSpec := { _root_.Go.OpenSpec.ofChange s with cond := some uptoSmall }

/-- 'muezzinlaw10.InvSays', WHERE WHAT IT READS IS OF BULK AT MOST 1048576: true; the input reads as it did. -/
def invSaysUptoRow : OpenClaim := { program := "ytebeclebpabkaaa", sum := "517a6e72c69fc4d53d4b00fcd7da15551c0219814774d1e34f36cd5bff072a84", func := "muezzin/muezzinlaw10.InvSays", spec := "invSays", named := ["math/bits.divideError", "math/bits.overflowError"], apart := false, narrowed := true }
def InvSaysUptoSaid : Prop := invSaysUptoRow.holds Try.pinned (OpenSpec.upto invSaysSpec)

/-- 'muezzinlaw10.InvRoots', WHERE WHAT IT READS IS OF BULK AT MOST 1048576: true; the input reads as it did. -/
def invRootsUptoRow : OpenClaim := { program := "ytebeclebpabkaaa", sum := "517a6e72c69fc4d53d4b00fcd7da15551c0219814774d1e34f36cd5bff072a84", func := "muezzin/muezzinlaw10.InvRoots", spec := "invRoots", named := ["math/bits.divideError", "math/bits.overflowError"], apart := false, narrowed := true }
def InvRootsUptoSaid : Prop := invRootsUptoRow.holds Try.pinned (OpenSpec.upto invRootsSpec)

/-- 'muezzinlaw10.InvFalls', WHERE WHAT IT READS IS OF BULK AT MOST 1048576: true; the input reads as it did. -/
def invFallsUptoRow : OpenClaim := { program := "ytebeclebpabkaaa", sum := "517a6e72c69fc4d53d4b00fcd7da15551c0219814774d1e34f36cd5bff072a84", func := "muezzin/muezzinlaw10.InvFalls", spec := "invFalls", named := ["math/bits.divideError", "math/bits.overflowError"], apart := false, narrowed := true }
def InvFallsUptoSaid : Prop := invFallsUptoRow.holds Try.pinned (OpenSpec.upto invFallsSpec)

/-- 'muezzinlaw10.InvPowers', WHERE WHAT IT READS IS OF BULK AT MOST 1048576: true; the input reads as it did. -/
def invPowersUptoRow : OpenClaim := { program := "ytebeclebpabkaaa", sum := "517a6e72c69fc4d53d4b00fcd7da15551c0219814774d1e34f36cd5bff072a84", func := "muezzin/muezzinlaw10.InvPowers", spec := "invPowers", named := ["math/bits.divideError", "math/bits.overflowError"], apart := false, narrowed := true }
def InvPowersUptoSaid : Prop := invPowersUptoRow.holds Try.pinned (OpenSpec.upto invPowersSpec)

end Rows
end Go.Proofs.Ytebeclebpabkaaa
