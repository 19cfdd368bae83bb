/-
  NARROWER THAN 'FOR EVERY INPUT', by the rows' own cells (each row's printed sentence says how): PsPlays: laid · PsOne: laid · PsPeriods: laid · PsApart: laid.
  DERIVED. THE GIVEN ROWS OF THIS SEAT. 4 by the template 'for every input the law returns true; each argument reads behind the call as it read before'; 0 by the template 'total and deterministic' (their statements: YtaiegmnjoffloaaDoorTotals.lean).
  GIVEN WITH THE SEED: the statements are not yours to turn. If you find one false, say at which input.
  Laid BY PROGRAM, IN A SANDBOX (cutbox-rows.mjs): the forced cells as the released guide's own fill.sh prints them over the translation b0ee8b70f87db8ba… (all of the seat's roots in one cut). By AI agents, Wed Nov 11 2026. No macro, syntax, notation, axiom, sorry.
-/
import Derived.Test.YtaiegmnjoffloaaDoorChecked
import GoSem.Claim
import GoSem.ClaimJoined
import GoSem.ClaimMapViews
import Derived.JoinedTies
import Derived.KernelRfl
namespace Go.Proofs.YtaiegmnjoffloaaDoor
/- THE CELL 'sum', in the pinned program and in every row, IS THE sha256 OF THE DUMP (.gsa) THAT YtaiegmnjoffloaaDoorProg.lean LOADS. Nothing in Lean hashes anything: it is a label: what it is worth is what the hold of that sum in a sandbox is worth. -/
noncomputable def Tryd.pinned : Pinned := { name := "ytaiegmnjoffloaadoor", sum := "b0ee8b70f87db8ba5460981156179d744633377b1cada9536b5ce6cca146353f", checked := Tryd.checked }
namespace Rows
def none {H : Type} : Left H := { results := [], args := [] }

/- WHAT THE LISTED PACKAGE-LEVEL VARIABLES READ AS WHEN THE CALL BEGINS. Each datum BY PROGRAM (the guide's laid-datum.mjs) off the statement by which the dump's own 'gosem.cut.vars' lays the variable. In a bare row this is a premise. The card (YtaiegmnjoffloaaDoorCards.lean) ties it to the program's text. -/
def laid_muezzin_api_ErrEnd {H : Type} : DataW H := .iface "*errors.errorString" (.ptr (.agg [.lit (.string [105, 116, 32, 101, 110, 100, 115, 32, 116, 111, 111, 32, 101, 97, 114, 108, 121])]))
def laid_muezzin_api_ErrShape {H : Type} : DataW H := .iface "*errors.errorString" (.ptr (.agg [.lit (.string [110, 111, 116, 32, 97, 115, 32, 105, 116, 32, 104, 97, 115, 32, 116, 111, 32, 98, 101])]))
def laid_muezzin_api_ErrRange {H : Type} : DataW H := .iface "*errors.errorString" (.ptr (.agg [.lit (.string [97, 32, 110, 117, 109, 98, 101, 114, 32, 111, 117, 116, 32, 111, 102, 32, 105, 116, 115, 32, 114, 97, 110, 103, 101])]))
def laid_muezzin_api_ErrMany {H : Type} : DataW H := .iface "*errors.errorString" (.ptr (.agg [.lit (.string [116, 111, 111, 32, 109, 97, 110, 121])]))
def laid_muezzin_api_ErrKind {H : Type} : DataW H := .iface "*errors.errorString" (.ptr (.agg [.lit (.string [97, 32, 102, 114, 97, 109, 101, 32, 111, 102, 32, 97, 110, 111, 116, 104, 101, 114, 32, 107, 105, 110, 100])]))
def laid_muezzin_api_ErrSum {H : Type} : DataW H := .iface "*errors.errorString" (.ptr (.agg [.lit (.string [97, 32, 115, 117, 109, 32, 116, 104, 97, 116, 32, 100, 111, 101, 115, 32, 110, 111, 116, 32, 102, 105, 116])]))
def laid_muezzin_api_ErrNone {H : Type} : DataW H := .iface "*errors.errorString" (.ptr (.agg [.lit (.string [116, 104, 101, 114, 101, 32, 105, 115, 32, 110, 111, 110, 101])]))
def laid_muezzin_api_ErrTwice {H : Type} : DataW H := .iface "*errors.errorString" (.ptr (.agg [.lit (.string [116, 104, 101, 114, 101, 32, 105, 115, 32, 111, 110, 101])]))
def laid_muezzin_api_ErrFull {H : Type} : DataW H := .iface "*errors.errorString" (.ptr (.agg [.lit (.string [116, 104, 101, 114, 101, 32, 105, 115, 32, 110, 111, 32, 114, 111, 111, 109])]))
def laid_muezzin_api_ErrState {H : Type} : DataW H := .iface "*errors.errorString" (.ptr (.agg [.lit (.string [110, 111, 116, 32, 97, 115, 32, 105, 116, 32, 105, 115, 32, 110, 111, 119])]))
def laid_muezzin_api_ErrSeq {H : Type} : DataW H := .iface "*errors.errorString" (.ptr (.agg [.lit (.string [111, 117, 116, 115, 105, 100, 101, 32, 111, 102, 32, 116, 104, 101, 32, 119, 105, 110, 100, 111, 119])]))
def laid_muezzin_api_ErrLong {H : Type} : DataW H := .iface "*errors.errorString" (.ptr (.agg [.lit (.string [105, 116, 32, 119, 111, 117, 108, 100, 32, 116, 97, 107, 101, 32, 116, 111, 111, 32, 108, 111, 110, 103])]))
def laid_muezzin_api_ErrWord {H : Type} : DataW H := .iface "*errors.errorString" (.ptr (.agg [.lit (.string [110, 111, 32, 115, 117, 99, 104, 32, 119, 111, 114, 100])]))
def laid_muezzin_api_ErrNumber {H : Type} : DataW H := .iface "*errors.errorString" (.ptr (.agg [.lit (.string [110, 111, 116, 32, 97, 32, 110, 117, 109, 98, 101, 114])]))

/-- 'muezzinlaw21.PsPlays': WHATEVER THE INPUT: true; the input reads as it did. -/
def psPlaysSpec : ChangeSpec := { name := "psPlays", fn := fun _ => fun
  | [d] => { results := [.lit (.bool true)], args := [d] }
  | _ => none }
def psPlaysRow : OpenClaim := { program := "ytaiegmnjoffloaadoor", sum := "b0ee8b70f87db8ba5460981156179d744633377b1cada9536b5ce6cca146353f", func := "muezzin/muezzinlaw21.PsPlays", spec := "psPlays", named := ["muezzin/api.ErrRange", "muezzin/api.ErrTwice", "muezzin/api.ErrNone", "muezzin/api.ErrEnd", "muezzin/api.ErrShape", "muezzin/api.ErrMany", "muezzin/api.ErrKind", "muezzin/api.ErrSum", "muezzin/api.ErrFull", "muezzin/api.ErrState", "muezzin/api.ErrSeq", "muezzin/api.ErrLong", "muezzin/api.ErrWord", "muezzin/api.ErrNumber"], apart := false, laid := [("muezzin/api.ErrEnd", laid_muezzin_api_ErrEnd), ("muezzin/api.ErrShape", laid_muezzin_api_ErrShape), ("muezzin/api.ErrRange", laid_muezzin_api_ErrRange), ("muezzin/api.ErrMany", laid_muezzin_api_ErrMany), ("muezzin/api.ErrKind", laid_muezzin_api_ErrKind), ("muezzin/api.ErrSum", laid_muezzin_api_ErrSum), ("muezzin/api.ErrNone", laid_muezzin_api_ErrNone), ("muezzin/api.ErrTwice", laid_muezzin_api_ErrTwice), ("muezzin/api.ErrFull", laid_muezzin_api_ErrFull), ("muezzin/api.ErrState", laid_muezzin_api_ErrState), ("muezzin/api.ErrSeq", laid_muezzin_api_ErrSeq), ("muezzin/api.ErrLong", laid_muezzin_api_ErrLong), ("muezzin/api.ErrWord", laid_muezzin_api_ErrWord), ("muezzin/api.ErrNumber", laid_muezzin_api_ErrNumber)] }
def PsPlaysSaid : Prop := psPlaysRow.holds Tryd.pinned (OpenSpec.ofChange psPlaysSpec)

/-- ITS FALSE NEIGHBOUR: 'it returns false'. Refute it at one input. -/
def psPlaysWrong : ChangeSpec := { name := "psPlays", fn := fun _ => fun
  | [d] => { results := [.lit (.bool false)], args := [d] }
  | _ => none }
def PsPlaysWrongFalsely : Prop := psPlaysRow.holds Tryd.pinned (OpenSpec.ofChange psPlaysWrong)

/-- 'muezzinlaw21.PsOne': WHATEVER THE INPUT: true; the input reads as it did. -/
def psOneSpec : ChangeSpec := { name := "psOne", fn := fun _ => fun
  | [d1, d2, d3] => { results := [.lit (.bool true)], args := [d1, d2, d3] }
  | _ => none }
def psOneRow : OpenClaim := { program := "ytaiegmnjoffloaadoor", sum := "b0ee8b70f87db8ba5460981156179d744633377b1cada9536b5ce6cca146353f", func := "muezzin/muezzinlaw21.PsOne", spec := "psOne", named := ["muezzin/api.ErrRange", "muezzin/api.ErrTwice", "muezzin/api.ErrNone", "muezzin/api.ErrState", "muezzin/api.ErrEnd", "muezzin/api.ErrShape", "muezzin/api.ErrMany", "muezzin/api.ErrKind", "muezzin/api.ErrSum", "muezzin/api.ErrFull", "muezzin/api.ErrSeq", "muezzin/api.ErrLong", "muezzin/api.ErrWord", "muezzin/api.ErrNumber"], apart := false, laid := [("muezzin/api.ErrEnd", laid_muezzin_api_ErrEnd), ("muezzin/api.ErrShape", laid_muezzin_api_ErrShape), ("muezzin/api.ErrRange", laid_muezzin_api_ErrRange), ("muezzin/api.ErrMany", laid_muezzin_api_ErrMany), ("muezzin/api.ErrKind", laid_muezzin_api_ErrKind), ("muezzin/api.ErrSum", laid_muezzin_api_ErrSum), ("muezzin/api.ErrNone", laid_muezzin_api_ErrNone), ("muezzin/api.ErrTwice", laid_muezzin_api_ErrTwice), ("muezzin/api.ErrFull", laid_muezzin_api_ErrFull), ("muezzin/api.ErrState", laid_muezzin_api_ErrState), ("muezzin/api.ErrSeq", laid_muezzin_api_ErrSeq), ("muezzin/api.ErrLong", laid_muezzin_api_ErrLong), ("muezzin/api.ErrWord", laid_muezzin_api_ErrWord), ("muezzin/api.ErrNumber", laid_muezzin_api_ErrNumber)] }
def PsOneSaid : Prop := psOneRow.holds Tryd.pinned (OpenSpec.ofChange psOneSpec)

/-- ITS FALSE NEIGHBOUR: 'it returns false'. Refute it at one input. -/
def psOneWrong : ChangeSpec := { name := "psOne", fn := fun _ => fun
  | [d1, d2, d3] => { results := [.lit (.bool false)], args := [d1, d2, d3] }
  | _ => none }
def PsOneWrongFalsely : Prop := psOneRow.holds Tryd.pinned (OpenSpec.ofChange psOneWrong)

/-- 'muezzinlaw21.PsPeriods': WHATEVER THE INPUT: true; the input reads as it did. -/
def psPeriodsSpec : ChangeSpec := { name := "psPeriods", fn := fun _ => fun
  | [d1, d2, d3, d4] => { results := [.lit (.bool true)], args := [d1, d2, d3, d4] }
  | _ => none }
def psPeriodsRow : OpenClaim := { program := "ytaiegmnjoffloaadoor", sum := "b0ee8b70f87db8ba5460981156179d744633377b1cada9536b5ce6cca146353f", func := "muezzin/muezzinlaw21.PsPeriods", spec := "psPeriods", named := ["muezzin/api.ErrRange", "muezzin/api.ErrTwice", "muezzin/api.ErrNone", "muezzin/api.ErrState", "muezzin/api.ErrEnd", "muezzin/api.ErrShape", "muezzin/api.ErrMany", "muezzin/api.ErrKind", "muezzin/api.ErrSum", "muezzin/api.ErrFull", "muezzin/api.ErrSeq", "muezzin/api.ErrLong", "muezzin/api.ErrWord", "muezzin/api.ErrNumber"], apart := false, laid := [("muezzin/api.ErrEnd", laid_muezzin_api_ErrEnd), ("muezzin/api.ErrShape", laid_muezzin_api_ErrShape), ("muezzin/api.ErrRange", laid_muezzin_api_ErrRange), ("muezzin/api.ErrMany", laid_muezzin_api_ErrMany), ("muezzin/api.ErrKind", laid_muezzin_api_ErrKind), ("muezzin/api.ErrSum", laid_muezzin_api_ErrSum), ("muezzin/api.ErrNone", laid_muezzin_api_ErrNone), ("muezzin/api.ErrTwice", laid_muezzin_api_ErrTwice), ("muezzin/api.ErrFull", laid_muezzin_api_ErrFull), ("muezzin/api.ErrState", laid_muezzin_api_ErrState), ("muezzin/api.ErrSeq", laid_muezzin_api_ErrSeq), ("muezzin/api.ErrLong", laid_muezzin_api_ErrLong), ("muezzin/api.ErrWord", laid_muezzin_api_ErrWord), ("muezzin/api.ErrNumber", laid_muezzin_api_ErrNumber)] }
def PsPeriodsSaid : Prop := psPeriodsRow.holds Tryd.pinned (OpenSpec.ofChange psPeriodsSpec)

/-- ITS FALSE NEIGHBOUR: 'it returns false'. Refute it at one input. -/
def psPeriodsWrong : ChangeSpec := { name := "psPeriods", fn := fun _ => fun
  | [d1, d2, d3, d4] => { results := [.lit (.bool false)], args := [d1, d2, d3, d4] }
  | _ => none }
def PsPeriodsWrongFalsely : Prop := psPeriodsRow.holds Tryd.pinned (OpenSpec.ofChange psPeriodsWrong)

/-- 'muezzinlaw21.PsApart': WHATEVER THE INPUT: true; the input reads as it did. -/
def psApartSpec : ChangeSpec := { name := "psApart", fn := fun _ => fun
  | [d1, d2] => { results := [.lit (.bool true)], args := [d1, d2] }
  | _ => none }
def psApartRow : OpenClaim := { program := "ytaiegmnjoffloaadoor", sum := "b0ee8b70f87db8ba5460981156179d744633377b1cada9536b5ce6cca146353f", func := "muezzin/muezzinlaw21.PsApart", spec := "psApart", named := ["muezzin/api.ErrRange", "muezzin/api.ErrTwice", "muezzin/api.ErrNone", "muezzin/api.ErrState"], apart := false, laid := [("muezzin/api.ErrRange", laid_muezzin_api_ErrRange), ("muezzin/api.ErrNone", laid_muezzin_api_ErrNone), ("muezzin/api.ErrTwice", laid_muezzin_api_ErrTwice), ("muezzin/api.ErrState", laid_muezzin_api_ErrState)] }
def PsApartSaid : Prop := psApartRow.holds Tryd.pinned (OpenSpec.ofChange psApartSpec)

/-- ITS FALSE NEIGHBOUR: 'it returns false'. Refute it at one input. -/
def psApartWrong : ChangeSpec := { name := "psApart", fn := fun _ => fun
  | [d1, d2] => { results := [.lit (.bool false)], args := [d1, d2] }
  | _ => none }
def PsApartWrongFalsely : Prop := psApartRow.holds Tryd.pinned (OpenSpec.ofChange psApartWrong)

/- THE SECOND FORM. 'bulk': how many values and letters a reading holds, each counted each time it is reached (what is shared counts as often as it is met; a slice's spare places count too). A statement '..UptoSaid' is the law's where the arguments, and the package variables that the reading takes, are together of bulk at most 1048576: NARROWER than '..Said'. Prove '..Said' where nothing that the law and all that it calls make is longer than what came in: it says more and counts as full. Else prove '..UptoSaid'. A law counts once. -/
mutual
def uptoBulk {H : Type} : DataW H → Nat
  | .lit (.string bytes) => bytes.length + 1
  | .lit _ => 1
  | .nil => 1
  | .ptr d => uptoBulk d + 1
  | .slice elems spare => uptoBulkAll elems + uptoBulkAll spare + 1
  | .agg parts => uptoBulkAll parts + 1
  | .iface _ d => uptoBulk d + 1
  | .map entries => uptoBulkEntries entries + 1
  | .held _ => 1
def uptoBulkAll {H : Type} : List (DataW H) → Nat
  | [] => 0
  | d :: r => uptoBulk d + uptoBulkAll r
def uptoBulkEntries {H : Type} : List (Lit × DataW H) → Nat
  | [] => 0
  | x :: r => uptoBulkEntry x + uptoBulkEntries r
def uptoBulkEntry {H : Type} : Lit × DataW H → Nat
  | (.string bytes, d) => bytes.length + uptoBulk d + 1
  | (_, d) => uptoBulk d + 1
 end
def uptoSmall : (H : Type) → List (DataW H) → Bool := fun _ ds => decide (uptoBulkAll ds ≤ 1048576)
def OpenSpec.upto (s : _root_.Go.ChangeSpec) : _root_.Go.OpenSpec := { _root_.Go.OpenSpec.ofChange s with cond := some uptoSmall }

/-- 'muezzinlaw21.PsPlays', WHERE WHAT IT READS IS OF BULK AT MOST 1048576: true; the input reads as it did. -/
def psPlaysUptoRow : OpenClaim := { program := "ytaiegmnjoffloaadoor", sum := "b0ee8b70f87db8ba5460981156179d744633377b1cada9536b5ce6cca146353f", func := "muezzin/muezzinlaw21.PsPlays", spec := "psPlays", named := ["muezzin/api.ErrRange", "muezzin/api.ErrTwice", "muezzin/api.ErrNone", "muezzin/api.ErrEnd", "muezzin/api.ErrShape", "muezzin/api.ErrMany", "muezzin/api.ErrKind", "muezzin/api.ErrSum", "muezzin/api.ErrFull", "muezzin/api.ErrState", "muezzin/api.ErrSeq", "muezzin/api.ErrLong", "muezzin/api.ErrWord", "muezzin/api.ErrNumber"], apart := false, laid := [("muezzin/api.ErrEnd", laid_muezzin_api_ErrEnd), ("muezzin/api.ErrShape", laid_muezzin_api_ErrShape), ("muezzin/api.ErrRange", laid_muezzin_api_ErrRange), ("muezzin/api.ErrMany", laid_muezzin_api_ErrMany), ("muezzin/api.ErrKind", laid_muezzin_api_ErrKind), ("muezzin/api.ErrSum", laid_muezzin_api_ErrSum), ("muezzin/api.ErrNone", laid_muezzin_api_ErrNone), ("muezzin/api.ErrTwice", laid_muezzin_api_ErrTwice), ("muezzin/api.ErrFull", laid_muezzin_api_ErrFull), ("muezzin/api.ErrState", laid_muezzin_api_ErrState), ("muezzin/api.ErrSeq", laid_muezzin_api_ErrSeq), ("muezzin/api.ErrLong", laid_muezzin_api_ErrLong), ("muezzin/api.ErrWord", laid_muezzin_api_ErrWord), ("muezzin/api.ErrNumber", laid_muezzin_api_ErrNumber)], narrowed := true }
def PsPlaysUptoSaid : Prop := psPlaysUptoRow.holds Tryd.pinned (OpenSpec.upto psPlaysSpec)

/-- 'muezzinlaw21.PsOne', WHERE WHAT IT READS IS OF BULK AT MOST 1048576: true; the input reads as it did. -/
def psOneUptoRow : OpenClaim := { program := "ytaiegmnjoffloaadoor", sum := "b0ee8b70f87db8ba5460981156179d744633377b1cada9536b5ce6cca146353f", func := "muezzin/muezzinlaw21.PsOne", spec := "psOne", named := ["muezzin/api.ErrRange", "muezzin/api.ErrTwice", "muezzin/api.ErrNone", "muezzin/api.ErrState", "muezzin/api.ErrEnd", "muezzin/api.ErrShape", "muezzin/api.ErrMany", "muezzin/api.ErrKind", "muezzin/api.ErrSum", "muezzin/api.ErrFull", "muezzin/api.ErrSeq", "muezzin/api.ErrLong", "muezzin/api.ErrWord", "muezzin/api.ErrNumber"], apart := false, laid := [("muezzin/api.ErrEnd", laid_muezzin_api_ErrEnd), ("muezzin/api.ErrShape", laid_muezzin_api_ErrShape), ("muezzin/api.ErrRange", laid_muezzin_api_ErrRange), ("muezzin/api.ErrMany", laid_muezzin_api_ErrMany), ("muezzin/api.ErrKind", laid_muezzin_api_ErrKind), ("muezzin/api.ErrSum", laid_muezzin_api_ErrSum), ("muezzin/api.ErrNone", laid_muezzin_api_ErrNone), ("muezzin/api.ErrTwice", laid_muezzin_api_ErrTwice), ("muezzin/api.ErrFull", laid_muezzin_api_ErrFull), ("muezzin/api.ErrState", laid_muezzin_api_ErrState), ("muezzin/api.ErrSeq", laid_muezzin_api_ErrSeq), ("muezzin/api.ErrLong", laid_muezzin_api_ErrLong), ("muezzin/api.ErrWord", laid_muezzin_api_ErrWord), ("muezzin/api.ErrNumber", laid_muezzin_api_ErrNumber)], narrowed := true }
def PsOneUptoSaid : Prop := psOneUptoRow.holds Tryd.pinned (OpenSpec.upto psOneSpec)

/-- 'muezzinlaw21.PsPeriods', WHERE WHAT IT READS IS OF BULK AT MOST 1048576: true; the input reads as it did. -/
def psPeriodsUptoRow : OpenClaim := { program := "ytaiegmnjoffloaadoor", sum := "b0ee8b70f87db8ba5460981156179d744633377b1cada9536b5ce6cca146353f", func := "muezzin/muezzinlaw21.PsPeriods", spec := "psPeriods", named := ["muezzin/api.ErrRange", "muezzin/api.ErrTwice", "muezzin/api.ErrNone", "muezzin/api.ErrState", "muezzin/api.ErrEnd", "muezzin/api.ErrShape", "muezzin/api.ErrMany", "muezzin/api.ErrKind", "muezzin/api.ErrSum", "muezzin/api.ErrFull", "muezzin/api.ErrSeq", "muezzin/api.ErrLong", "muezzin/api.ErrWord", "muezzin/api.ErrNumber"], apart := false, laid := [("muezzin/api.ErrEnd", laid_muezzin_api_ErrEnd), ("muezzin/api.ErrShape", laid_muezzin_api_ErrShape), ("muezzin/api.ErrRange", laid_muezzin_api_ErrRange), ("muezzin/api.ErrMany", laid_muezzin_api_ErrMany), ("muezzin/api.ErrKind", laid_muezzin_api_ErrKind), ("muezzin/api.ErrSum", laid_muezzin_api_ErrSum), ("muezzin/api.ErrNone", laid_muezzin_api_ErrNone), ("muezzin/api.ErrTwice", laid_muezzin_api_ErrTwice), ("muezzin/api.ErrFull", laid_muezzin_api_ErrFull), ("muezzin/api.ErrState", laid_muezzin_api_ErrState), ("muezzin/api.ErrSeq", laid_muezzin_api_ErrSeq), ("muezzin/api.ErrLong", laid_muezzin_api_ErrLong), ("muezzin/api.ErrWord", laid_muezzin_api_ErrWord), ("muezzin/api.ErrNumber", laid_muezzin_api_ErrNumber)], narrowed := true }
def PsPeriodsUptoSaid : Prop := psPeriodsUptoRow.holds Tryd.pinned (OpenSpec.upto psPeriodsSpec)

/-- 'muezzinlaw21.PsApart', WHERE WHAT IT READS IS OF BULK AT MOST 1048576: true; the input reads as it did. -/
def psApartUptoRow : OpenClaim := { program := "ytaiegmnjoffloaadoor", sum := "b0ee8b70f87db8ba5460981156179d744633377b1cada9536b5ce6cca146353f", func := "muezzin/muezzinlaw21.PsApart", spec := "psApart", named := ["muezzin/api.ErrRange", "muezzin/api.ErrTwice", "muezzin/api.ErrNone", "muezzin/api.ErrState"], apart := false, laid := [("muezzin/api.ErrRange", laid_muezzin_api_ErrRange), ("muezzin/api.ErrNone", laid_muezzin_api_ErrNone), ("muezzin/api.ErrTwice", laid_muezzin_api_ErrTwice), ("muezzin/api.ErrState", laid_muezzin_api_ErrState)], narrowed := true }
def PsApartUptoSaid : Prop := psApartUptoRow.holds Tryd.pinned (OpenSpec.upto psApartSpec)

end Rows
end Go.Proofs.YtaiegmnjoffloaaDoor
