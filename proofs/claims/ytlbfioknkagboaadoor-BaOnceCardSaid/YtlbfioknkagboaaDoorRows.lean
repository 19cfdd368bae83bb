/-
  NARROWER THAN 'FOR EVERY INPUT', by the rows' own cells (each row's printed sentence says how): BaOnce: laid · BaHears: laid · BaAsks: laid · BaLives: laid · BaStates: laid · BaSeqs: laid.
  DERIVED. THE GIVEN ROWS OF THIS SEAT. 6 by the template 'for every input the law returns true; each argument reads behind the call as it read before'; 0 by the template 'total and deterministic' (their statements: YtlbfioknkagboaaDoorTotals.lean).
  GIVEN WITH THE SEED: the statements are not yours to turn. If you find one false, say at which input.
  Laid BY PROGRAM, IN A SANDBOX (cutbox-rows.mjs): the forced cells as the released guide's own fill.sh prints them over the translation c02f4a8221a5bbae… (all of the seat's roots in one cut). By AI agents, Wed Nov 11 2026. No macro, syntax, notation, axiom, sorry.
-/
import Derived.Test.YtlbfioknkagboaaDoorChecked
import GoSem.Claim
import GoSem.ClaimJoined
import GoSem.ClaimMapViews
import Derived.JoinedTies
import Derived.KernelRfl
namespace Go.Proofs.YtlbfioknkagboaaDoor
/- THE CELL 'sum', in the pinned program and in every row, IS THE sha256 OF THE DUMP (.gsa) THAT YtlbfioknkagboaaDoorProg.lean LOADS. Nothing in Lean hashes anything: it is a label: what it is worth is what the hold of that sum in a sandbox is worth. -/
noncomputable def Tryd.pinned : Pinned := { name := "ytlbfioknkagboaadoor", sum := "c02f4a8221a5bbaef1d8c98818cecce6be964b265ec563dc9a6d9ec56eb356d2", checked := Tryd.checked }
namespace Rows
def none {H : Type} : Left H := { results := [], args := [] }

/- WHAT THE LISTED PACKAGE-LEVEL VARIABLES READ AS WHEN THE CALL BEGINS. Each datum BY PROGRAM (the guide's laid-datum.mjs) off the statement by which the dump's own 'gosem.cut.vars' lays the variable. In a bare row this is a premise. The card (YtlbfioknkagboaaDoorCards.lean) ties it to the program's text. -/
def laid_math_bits_deBruijn64tab {H : Type} : DataW H := .agg [.lit (.int .u8 0), .lit (.int .u8 1), .lit (.int .u8 56), .lit (.int .u8 2), .lit (.int .u8 57), .lit (.int .u8 49), .lit (.int .u8 28), .lit (.int .u8 3), .lit (.int .u8 61), .lit (.int .u8 58), .lit (.int .u8 42), .lit (.int .u8 50), .lit (.int .u8 38), .lit (.int .u8 29), .lit (.int .u8 17), .lit (.int .u8 4), .lit (.int .u8 62), .lit (.int .u8 47), .lit (.int .u8 59), .lit (.int .u8 36), .lit (.int .u8 45), .lit (.int .u8 43), .lit (.int .u8 51), .lit (.int .u8 22), .lit (.int .u8 53), .lit (.int .u8 39), .lit (.int .u8 33), .lit (.int .u8 30), .lit (.int .u8 24), .lit (.int .u8 18), .lit (.int .u8 12), .lit (.int .u8 5), .lit (.int .u8 63), .lit (.int .u8 55), .lit (.int .u8 48), .lit (.int .u8 27), .lit (.int .u8 60), .lit (.int .u8 41), .lit (.int .u8 37), .lit (.int .u8 16), .lit (.int .u8 46), .lit (.int .u8 35), .lit (.int .u8 44), .lit (.int .u8 21), .lit (.int .u8 52), .lit (.int .u8 32), .lit (.int .u8 23), .lit (.int .u8 11), .lit (.int .u8 54), .lit (.int .u8 26), .lit (.int .u8 40), .lit (.int .u8 15), .lit (.int .u8 34), .lit (.int .u8 20), .lit (.int .u8 31), .lit (.int .u8 10), .lit (.int .u8 25), .lit (.int .u8 14), .lit (.int .u8 19), .lit (.int .u8 9), .lit (.int .u8 13), .lit (.int .u8 8), .lit (.int .u8 7), .lit (.int .u8 6)]
def laid_muezzin_api_ErrRange {H : Type} : DataW H := .iface "*errors.errorString" (.ptr (.agg [.lit (.string [97, 32, 110, 117, 109, 98, 101, 114, 32, 111, 117, 116, 32, 111, 102, 32, 105, 116, 115, 32, 114, 97, 110, 103, 101])]))
def laid_muezzin_api_ErrNone {H : Type} : DataW H := .iface "*errors.errorString" (.ptr (.agg [.lit (.string [116, 104, 101, 114, 101, 32, 105, 115, 32, 110, 111, 110, 101])]))
def laid_muezzin_api_ErrFull {H : Type} : DataW H := .iface "*errors.errorString" (.ptr (.agg [.lit (.string [116, 104, 101, 114, 101, 32, 105, 115, 32, 110, 111, 32, 114, 111, 111, 109])]))
def laid_muezzin_api_ErrState {H : Type} : DataW H := .iface "*errors.errorString" (.ptr (.agg [.lit (.string [110, 111, 116, 32, 97, 115, 32, 105, 116, 32, 105, 115, 32, 110, 111, 119])]))
def laid_muezzin_api_ErrSeq {H : Type} : DataW H := .iface "*errors.errorString" (.ptr (.agg [.lit (.string [111, 117, 116, 115, 105, 100, 101, 32, 111, 102, 32, 116, 104, 101, 32, 119, 105, 110, 100, 111, 119])]))
def laid_muezzin_api_ErrEnd {H : Type} : DataW H := .iface "*errors.errorString" (.ptr (.agg [.lit (.string [105, 116, 32, 101, 110, 100, 115, 32, 116, 111, 111, 32, 101, 97, 114, 108, 121])]))
def laid_muezzin_api_ErrShape {H : Type} : DataW H := .iface "*errors.errorString" (.ptr (.agg [.lit (.string [110, 111, 116, 32, 97, 115, 32, 105, 116, 32, 104, 97, 115, 32, 116, 111, 32, 98, 101])]))
def laid_muezzin_api_ErrMany {H : Type} : DataW H := .iface "*errors.errorString" (.ptr (.agg [.lit (.string [116, 111, 111, 32, 109, 97, 110, 121])]))
def laid_muezzin_api_ErrKind {H : Type} : DataW H := .iface "*errors.errorString" (.ptr (.agg [.lit (.string [97, 32, 102, 114, 97, 109, 101, 32, 111, 102, 32, 97, 110, 111, 116, 104, 101, 114, 32, 107, 105, 110, 100])]))
def laid_muezzin_api_ErrSum {H : Type} : DataW H := .iface "*errors.errorString" (.ptr (.agg [.lit (.string [97, 32, 115, 117, 109, 32, 116, 104, 97, 116, 32, 100, 111, 101, 115, 32, 110, 111, 116, 32, 102, 105, 116])]))
def laid_muezzin_api_ErrTwice {H : Type} : DataW H := .iface "*errors.errorString" (.ptr (.agg [.lit (.string [116, 104, 101, 114, 101, 32, 105, 115, 32, 111, 110, 101])]))
def laid_muezzin_api_ErrLong {H : Type} : DataW H := .iface "*errors.errorString" (.ptr (.agg [.lit (.string [105, 116, 32, 119, 111, 117, 108, 100, 32, 116, 97, 107, 101, 32, 116, 111, 111, 32, 108, 111, 110, 103])]))
def laid_muezzin_api_ErrWord {H : Type} : DataW H := .iface "*errors.errorString" (.ptr (.agg [.lit (.string [110, 111, 32, 115, 117, 99, 104, 32, 119, 111, 114, 100])]))
def laid_muezzin_api_ErrNumber {H : Type} : DataW H := .iface "*errors.errorString" (.ptr (.agg [.lit (.string [110, 111, 116, 32, 97, 32, 110, 117, 109, 98, 101, 114])]))

/-- 'muezzinlaw16.BaOnce': WHATEVER THE INPUT: true; the input reads as it did. -/
def baOnceSpec : ChangeSpec := { name := "baOnce", fn := fun _ => fun
  | [d1, d2, d3, d4] => { results := [.lit (.bool true)], args := [d1, d2, d3, d4] }
  | _ => none }
def baOnceRow : OpenClaim := { program := "ytlbfioknkagboaadoor", sum := "c02f4a8221a5bbaef1d8c98818cecce6be964b265ec563dc9a6d9ec56eb356d2", func := "muezzin/muezzinlaw16.BaOnce", spec := "baOnce", unfollowed := true, recurses := true, named := ["muezzin/api.ErrRange", "muezzin/api.ErrState", "muezzin/api.ErrFull", "muezzin/api.ErrNone", "math/bits.deBruijn64tab", "muezzin/api.ErrSeq"], apart := false, laid := [("math/bits.deBruijn64tab", laid_math_bits_deBruijn64tab), ("muezzin/api.ErrRange", laid_muezzin_api_ErrRange), ("muezzin/api.ErrNone", laid_muezzin_api_ErrNone), ("muezzin/api.ErrFull", laid_muezzin_api_ErrFull), ("muezzin/api.ErrState", laid_muezzin_api_ErrState), ("muezzin/api.ErrSeq", laid_muezzin_api_ErrSeq)] }
def BaOnceSaid : Prop := baOnceRow.holds Tryd.pinned (OpenSpec.ofChange baOnceSpec)

/-- ITS FALSE NEIGHBOUR: 'it returns false'. Refute it at one input. -/
def baOnceWrong : ChangeSpec := { name := "baOnce", fn := fun _ => fun
  | [d1, d2, d3, d4] => { results := [.lit (.bool false)], args := [d1, d2, d3, d4] }
  | _ => none }
def BaOnceWrongFalsely : Prop := baOnceRow.holds Tryd.pinned (OpenSpec.ofChange baOnceWrong)

/-- 'muezzinlaw16.BaHears': WHATEVER THE INPUT: true; the input reads as it did. -/
def baHearsSpec : ChangeSpec := { name := "baHears", fn := fun _ => fun
  | [d1, d2, d3] => { results := [.lit (.bool true)], args := [d1, d2, d3] }
  | _ => none }
def baHearsRow : OpenClaim := { program := "ytlbfioknkagboaadoor", sum := "c02f4a8221a5bbaef1d8c98818cecce6be964b265ec563dc9a6d9ec56eb356d2", func := "muezzin/muezzinlaw16.BaHears", spec := "baHears", unfollowed := true, recurses := true, named := ["muezzin/api.ErrRange", "muezzin/api.ErrState", "muezzin/api.ErrFull", "muezzin/api.ErrNone", "muezzin/api.ErrSeq", "math/bits.deBruijn64tab"], apart := false, laid := [("math/bits.deBruijn64tab", laid_math_bits_deBruijn64tab), ("muezzin/api.ErrRange", laid_muezzin_api_ErrRange), ("muezzin/api.ErrNone", laid_muezzin_api_ErrNone), ("muezzin/api.ErrFull", laid_muezzin_api_ErrFull), ("muezzin/api.ErrState", laid_muezzin_api_ErrState), ("muezzin/api.ErrSeq", laid_muezzin_api_ErrSeq)] }
def BaHearsSaid : Prop := baHearsRow.holds Tryd.pinned (OpenSpec.ofChange baHearsSpec)

/-- ITS FALSE NEIGHBOUR: 'it returns false'. Refute it at one input. -/
def baHearsWrong : ChangeSpec := { name := "baHears", fn := fun _ => fun
  | [d1, d2, d3] => { results := [.lit (.bool false)], args := [d1, d2, d3] }
  | _ => none }
def BaHearsWrongFalsely : Prop := baHearsRow.holds Tryd.pinned (OpenSpec.ofChange baHearsWrong)

/-- 'muezzinlaw16.BaAsks': WHATEVER THE INPUT: true; the input reads as it did. -/
def baAsksSpec : ChangeSpec := { name := "baAsks", fn := fun _ => fun
  | [d1, d2, d3] => { results := [.lit (.bool true)], args := [d1, d2, d3] }
  | _ => none }
def baAsksRow : OpenClaim := { program := "ytlbfioknkagboaadoor", sum := "c02f4a8221a5bbaef1d8c98818cecce6be964b265ec563dc9a6d9ec56eb356d2", func := "muezzin/muezzinlaw16.BaAsks", spec := "baAsks", unfollowed := true, recurses := true, named := ["muezzin/api.ErrRange", "muezzin/api.ErrState", "muezzin/api.ErrFull", "muezzin/api.ErrNone", "math/bits.deBruijn64tab", "muezzin/api.ErrEnd", "muezzin/api.ErrShape", "muezzin/api.ErrMany", "muezzin/api.ErrKind", "muezzin/api.ErrSum", "muezzin/api.ErrTwice", "muezzin/api.ErrSeq", "muezzin/api.ErrLong", "muezzin/api.ErrWord", "muezzin/api.ErrNumber"], apart := false, laid := [("math/bits.deBruijn64tab", laid_math_bits_deBruijn64tab), ("muezzin/api.ErrEnd", laid_muezzin_api_ErrEnd), ("muezzin/api.ErrShape", laid_muezzin_api_ErrShape), ("muezzin/api.ErrRange", laid_muezzin_api_ErrRange), ("muezzin/api.ErrMany", laid_muezzin_api_ErrMany), ("muezzin/api.ErrKind", laid_muezzin_api_ErrKind), ("muezzin/api.ErrSum", laid_muezzin_api_ErrSum), ("muezzin/api.ErrNone", laid_muezzin_api_ErrNone), ("muezzin/api.ErrTwice", laid_muezzin_api_ErrTwice), ("muezzin/api.ErrFull", laid_muezzin_api_ErrFull), ("muezzin/api.ErrState", laid_muezzin_api_ErrState), ("muezzin/api.ErrSeq", laid_muezzin_api_ErrSeq), ("muezzin/api.ErrLong", laid_muezzin_api_ErrLong), ("muezzin/api.ErrWord", laid_muezzin_api_ErrWord), ("muezzin/api.ErrNumber", laid_muezzin_api_ErrNumber)] }
def BaAsksSaid : Prop := baAsksRow.holds Tryd.pinned (OpenSpec.ofChange baAsksSpec)

/-- ITS FALSE NEIGHBOUR: 'it returns false'. Refute it at one input. -/
def baAsksWrong : ChangeSpec := { name := "baAsks", fn := fun _ => fun
  | [d1, d2, d3] => { results := [.lit (.bool false)], args := [d1, d2, d3] }
  | _ => none }
def BaAsksWrongFalsely : Prop := baAsksRow.holds Tryd.pinned (OpenSpec.ofChange baAsksWrong)

/-- 'muezzinlaw16.BaLives': WHATEVER THE INPUT: true; the input reads as it did. -/
def baLivesSpec : ChangeSpec := { name := "baLives", fn := fun _ => fun
  | [d1, d2, d3] => { results := [.lit (.bool true)], args := [d1, d2, d3] }
  | _ => none }
def baLivesRow : OpenClaim := { program := "ytlbfioknkagboaadoor", sum := "c02f4a8221a5bbaef1d8c98818cecce6be964b265ec563dc9a6d9ec56eb356d2", func := "muezzin/muezzinlaw16.BaLives", spec := "baLives", unfollowed := true, recurses := true, named := ["muezzin/api.ErrRange", "muezzin/api.ErrState", "muezzin/api.ErrFull", "muezzin/api.ErrNone", "math/bits.deBruijn64tab"], apart := false, laid := [("math/bits.deBruijn64tab", laid_math_bits_deBruijn64tab), ("muezzin/api.ErrRange", laid_muezzin_api_ErrRange), ("muezzin/api.ErrNone", laid_muezzin_api_ErrNone), ("muezzin/api.ErrFull", laid_muezzin_api_ErrFull), ("muezzin/api.ErrState", laid_muezzin_api_ErrState)] }
def BaLivesSaid : Prop := baLivesRow.holds Tryd.pinned (OpenSpec.ofChange baLivesSpec)

/-- ITS FALSE NEIGHBOUR: 'it returns false'. Refute it at one input. -/
def baLivesWrong : ChangeSpec := { name := "baLives", fn := fun _ => fun
  | [d1, d2, d3] => { results := [.lit (.bool false)], args := [d1, d2, d3] }
  | _ => none }
def BaLivesWrongFalsely : Prop := baLivesRow.holds Tryd.pinned (OpenSpec.ofChange baLivesWrong)

/-- 'muezzinlaw16.BaStates': WHATEVER THE INPUT: true; the input reads as it did. -/
def baStatesSpec : ChangeSpec := { name := "baStates", fn := fun _ => fun
  | [d1, d2, d3, d4] => { results := [.lit (.bool true)], args := [d1, d2, d3, d4] }
  | _ => none }
def baStatesRow : OpenClaim := { program := "ytlbfioknkagboaadoor", sum := "c02f4a8221a5bbaef1d8c98818cecce6be964b265ec563dc9a6d9ec56eb356d2", func := "muezzin/muezzinlaw16.BaStates", spec := "baStates", unfollowed := true, recurses := true, named := ["muezzin/api.ErrRange", "muezzin/api.ErrState", "muezzin/api.ErrEnd", "muezzin/api.ErrShape", "muezzin/api.ErrMany", "muezzin/api.ErrKind", "muezzin/api.ErrSum", "muezzin/api.ErrNone", "muezzin/api.ErrTwice", "muezzin/api.ErrFull", "muezzin/api.ErrSeq", "muezzin/api.ErrLong", "muezzin/api.ErrWord", "muezzin/api.ErrNumber", "math/bits.deBruijn64tab"], apart := false, laid := [("math/bits.deBruijn64tab", laid_math_bits_deBruijn64tab), ("muezzin/api.ErrEnd", laid_muezzin_api_ErrEnd), ("muezzin/api.ErrShape", laid_muezzin_api_ErrShape), ("muezzin/api.ErrRange", laid_muezzin_api_ErrRange), ("muezzin/api.ErrMany", laid_muezzin_api_ErrMany), ("muezzin/api.ErrKind", laid_muezzin_api_ErrKind), ("muezzin/api.ErrSum", laid_muezzin_api_ErrSum), ("muezzin/api.ErrNone", laid_muezzin_api_ErrNone), ("muezzin/api.ErrTwice", laid_muezzin_api_ErrTwice), ("muezzin/api.ErrFull", laid_muezzin_api_ErrFull), ("muezzin/api.ErrState", laid_muezzin_api_ErrState), ("muezzin/api.ErrSeq", laid_muezzin_api_ErrSeq), ("muezzin/api.ErrLong", laid_muezzin_api_ErrLong), ("muezzin/api.ErrWord", laid_muezzin_api_ErrWord), ("muezzin/api.ErrNumber", laid_muezzin_api_ErrNumber)] }
def BaStatesSaid : Prop := baStatesRow.holds Tryd.pinned (OpenSpec.ofChange baStatesSpec)

/-- ITS FALSE NEIGHBOUR: 'it returns false'. Refute it at one input. -/
def baStatesWrong : ChangeSpec := { name := "baStates", fn := fun _ => fun
  | [d1, d2, d3, d4] => { results := [.lit (.bool false)], args := [d1, d2, d3, d4] }
  | _ => none }
def BaStatesWrongFalsely : Prop := baStatesRow.holds Tryd.pinned (OpenSpec.ofChange baStatesWrong)

/-- 'muezzinlaw16.BaSeqs': WHATEVER THE INPUT: true; the input reads as it did. -/
def baSeqsSpec : ChangeSpec := { name := "baSeqs", fn := fun _ => fun
  | [d1, d2] => { results := [.lit (.bool true)], args := [d1, d2] }
  | _ => none }
def baSeqsRow : OpenClaim := { program := "ytlbfioknkagboaadoor", sum := "c02f4a8221a5bbaef1d8c98818cecce6be964b265ec563dc9a6d9ec56eb356d2", func := "muezzin/muezzinlaw16.BaSeqs", spec := "baSeqs", unfollowed := true, recurses := true, named := ["muezzin/api.ErrRange", "muezzin/api.ErrState", "muezzin/api.ErrEnd", "muezzin/api.ErrShape", "muezzin/api.ErrMany", "muezzin/api.ErrKind", "muezzin/api.ErrSum", "muezzin/api.ErrNone", "muezzin/api.ErrTwice", "muezzin/api.ErrFull", "muezzin/api.ErrSeq", "muezzin/api.ErrLong", "muezzin/api.ErrWord", "muezzin/api.ErrNumber", "math/bits.deBruijn64tab"], apart := false, laid := [("math/bits.deBruijn64tab", laid_math_bits_deBruijn64tab), ("muezzin/api.ErrEnd", laid_muezzin_api_ErrEnd), ("muezzin/api.ErrShape", laid_muezzin_api_ErrShape), ("muezzin/api.ErrRange", laid_muezzin_api_ErrRange), ("muezzin/api.ErrMany", laid_muezzin_api_ErrMany), ("muezzin/api.ErrKind", laid_muezzin_api_ErrKind), ("muezzin/api.ErrSum", laid_muezzin_api_ErrSum), ("muezzin/api.ErrNone", laid_muezzin_api_ErrNone), ("muezzin/api.ErrTwice", laid_muezzin_api_ErrTwice), ("muezzin/api.ErrFull", laid_muezzin_api_ErrFull), ("muezzin/api.ErrState", laid_muezzin_api_ErrState), ("muezzin/api.ErrSeq", laid_muezzin_api_ErrSeq), ("muezzin/api.ErrLong", laid_muezzin_api_ErrLong), ("muezzin/api.ErrWord", laid_muezzin_api_ErrWord), ("muezzin/api.ErrNumber", laid_muezzin_api_ErrNumber)] }
def BaSeqsSaid : Prop := baSeqsRow.holds Tryd.pinned (OpenSpec.ofChange baSeqsSpec)

/-- ITS FALSE NEIGHBOUR: 'it returns false'. Refute it at one input. -/
def baSeqsWrong : ChangeSpec := { name := "baSeqs", fn := fun _ => fun
  | [d1, d2] => { results := [.lit (.bool false)], args := [d1, d2] }
  | _ => none }
def BaSeqsWrongFalsely : Prop := baSeqsRow.holds Tryd.pinned (OpenSpec.ofChange baSeqsWrong)

/- THE SECOND FORM. 'bulk': how many values and letters a reading holds, each counted each time it is reached (what is shared counts as often as it is met; a slice's spare places count too). A statement '..UptoSaid' is the law's where the arguments, and the package variables that the reading takes, are together of bulk at most 1048576: NARROWER than '..Said'. Prove '..Said' where nothing that the law and all that it calls make is longer than what came in: it says more and counts as full. Else prove '..UptoSaid'. A law counts once. -/
mutual
def uptoBulk {H : Type} : DataW H → Nat
  | .lit (.string bytes) => bytes.length + 1
  | .lit _ => 1
  | .nil => 1
  | .ptr d => uptoBulk d + 1
  | .slice elems spare => uptoBulkAll elems + uptoBulkAll spare + 1
  | .agg parts => uptoBulkAll parts + 1
  | .iface _ d => uptoBulk d + 1
  | .map entries => uptoBulkEntries entries + 1
  | .held _ => 1
def uptoBulkAll {H : Type} : List (DataW H) → Nat
  | [] => 0
  | d :: r => uptoBulk d + uptoBulkAll r
def uptoBulkEntries {H : Type} : List (Lit × DataW H) → Nat
  | [] => 0
  | x :: r => uptoBulkEntry x + uptoBulkEntries r
def uptoBulkEntry {H : Type} : Lit × DataW H → Nat
  | (.string bytes, d) => bytes.length + uptoBulk d + 1
  | (_, d) => uptoBulk d + 1
 end
def uptoSmall : (H : Type) → List (DataW H) → Bool := fun _ ds => decide (uptoBulkAll ds ≤ 1048576)
def OpenSpec.upto (s : _root_.Go.ChangeSpec) : _root_.Go.OpenSpec := { _root_.Go.OpenSpec.ofChange s with cond := some uptoSmall }

/-- 'muezzinlaw16.BaOnce', WHERE WHAT IT READS IS OF BULK AT MOST 1048576: true; the input reads as it did. -/
def baOnceUptoRow : OpenClaim := { program := "ytlbfioknkagboaadoor", sum := "c02f4a8221a5bbaef1d8c98818cecce6be964b265ec563dc9a6d9ec56eb356d2", func := "muezzin/muezzinlaw16.BaOnce", spec := "baOnce", unfollowed := true, recurses := true, named := ["muezzin/api.ErrRange", "muezzin/api.ErrState", "muezzin/api.ErrFull", "muezzin/api.ErrNone", "math/bits.deBruijn64tab", "muezzin/api.ErrSeq"], apart := false, laid := [("math/bits.deBruijn64tab", laid_math_bits_deBruijn64tab), ("muezzin/api.ErrRange", laid_muezzin_api_ErrRange), ("muezzin/api.ErrNone", laid_muezzin_api_ErrNone), ("muezzin/api.ErrFull", laid_muezzin_api_ErrFull), ("muezzin/api.ErrState", laid_muezzin_api_ErrState), ("muezzin/api.ErrSeq", laid_muezzin_api_ErrSeq)], narrowed := true }
def BaOnceUptoSaid : Prop := baOnceUptoRow.holds Tryd.pinned (OpenSpec.upto baOnceSpec)

/-- 'muezzinlaw16.BaHears', WHERE WHAT IT READS IS OF BULK AT MOST 1048576: true; the input reads as it did. -/
def baHearsUptoRow : OpenClaim := { program := "ytlbfioknkagboaadoor", sum := "c02f4a8221a5bbaef1d8c98818cecce6be964b265ec563dc9a6d9ec56eb356d2", func := "muezzin/muezzinlaw16.BaHears", spec := "baHears", unfollowed := true, recurses := true, named := ["muezzin/api.ErrRange", "muezzin/api.ErrState", "muezzin/api.ErrFull", "muezzin/api.ErrNone", "muezzin/api.ErrSeq", "math/bits.deBruijn64tab"], apart := false, laid := [("math/bits.deBruijn64tab", laid_math_bits_deBruijn64tab), ("muezzin/api.ErrRange", laid_muezzin_api_ErrRange), ("muezzin/api.ErrNone", laid_muezzin_api_ErrNone), ("muezzin/api.ErrFull", laid_muezzin_api_ErrFull), ("muezzin/api.ErrState", laid_muezzin_api_ErrState), ("muezzin/api.ErrSeq", laid_muezzin_api_ErrSeq)], narrowed := true }
def BaHearsUptoSaid : Prop := baHearsUptoRow.holds Tryd.pinned (OpenSpec.upto baHearsSpec)

/-- 'muezzinlaw16.BaAsks', WHERE WHAT IT READS IS OF BULK AT MOST 1048576: true; the input reads as it did. -/
def baAsksUptoRow : OpenClaim := { program := "ytlbfioknkagboaadoor", sum := "c02f4a8221a5bbaef1d8c98818cecce6be964b265ec563dc9a6d9ec56eb356d2", func := "muezzin/muezzinlaw16.BaAsks", spec := "baAsks", unfollowed := true, recurses := true, named := ["muezzin/api.ErrRange", "muezzin/api.ErrState", "muezzin/api.ErrFull", "muezzin/api.ErrNone", "math/bits.deBruijn64tab", "muezzin/api.ErrEnd", "muezzin/api.ErrShape", "muezzin/api.ErrMany", "muezzin/api.ErrKind", "muezzin/api.ErrSum", "muezzin/api.ErrTwice", "muezzin/api.ErrSeq", "muezzin/api.ErrLong", "muezzin/api.ErrWord", "muezzin/api.ErrNumber"], apart := false, laid := [("math/bits.deBruijn64tab", laid_math_bits_deBruijn64tab), ("muezzin/api.ErrEnd", laid_muezzin_api_ErrEnd), ("muezzin/api.ErrShape", laid_muezzin_api_ErrShape), ("muezzin/api.ErrRange", laid_muezzin_api_ErrRange), ("muezzin/api.ErrMany", laid_muezzin_api_ErrMany), ("muezzin/api.ErrKind", laid_muezzin_api_ErrKind), ("muezzin/api.ErrSum", laid_muezzin_api_ErrSum), ("muezzin/api.ErrNone", laid_muezzin_api_ErrNone), ("muezzin/api.ErrTwice", laid_muezzin_api_ErrTwice), ("muezzin/api.ErrFull", laid_muezzin_api_ErrFull), ("muezzin/api.ErrState", laid_muezzin_api_ErrState), ("muezzin/api.ErrSeq", laid_muezzin_api_ErrSeq), ("muezzin/api.ErrLong", laid_muezzin_api_ErrLong), ("muezzin/api.ErrWord", laid_muezzin_api_ErrWord), ("muezzin/api.ErrNumber", laid_muezzin_api_ErrNumber)], narrowed := true }
def BaAsksUptoSaid : Prop := baAsksUptoRow.holds Tryd.pinned (OpenSpec.upto baAsksSpec)

/-- 'muezzinlaw16.BaLives', WHERE WHAT IT READS IS OF BULK AT MOST 1048576: true; the input reads as it did. -/
def baLivesUptoRow : OpenClaim := { program := "ytlbfioknkagboaadoor", sum := "c02f4a8221a5bbaef1d8c98818cecce6be964b265ec563dc9a6d9ec56eb356d2", func := "muezzin/muezzinlaw16.BaLives", spec := "baLives", unfollowed := true, recurses := true, named := ["muezzin/api.ErrRange", "muezzin/api.ErrState", "muezzin/api.ErrFull", "muezzin/api.ErrNone", "math/bits.deBruijn64tab"], apart := false, laid := [("math/bits.deBruijn64tab", laid_math_bits_deBruijn64tab), ("muezzin/api.ErrRange", laid_muezzin_api_ErrRange), ("muezzin/api.ErrNone", laid_muezzin_api_ErrNone), ("muezzin/api.ErrFull", laid_muezzin_api_ErrFull), ("muezzin/api.ErrState", laid_muezzin_api_ErrState)], narrowed := true }
def BaLivesUptoSaid : Prop := baLivesUptoRow.holds Tryd.pinned (OpenSpec.upto baLivesSpec)

/-- 'muezzinlaw16.BaStates', WHERE WHAT IT READS IS OF BULK AT MOST 1048576: true; the input reads as it did. -/
def baStatesUptoRow : OpenClaim := { program := "ytlbfioknkagboaadoor", sum := "c02f4a8221a5bbaef1d8c98818cecce6be964b265ec563dc9a6d9ec56eb356d2", func := "muezzin/muezzinlaw16.BaStates", spec := "baStates", unfollowed := true, recurses := true, named := ["muezzin/api.ErrRange", "muezzin/api.ErrState", "muezzin/api.ErrEnd", "muezzin/api.ErrShape", "muezzin/api.ErrMany", "muezzin/api.ErrKind", "muezzin/api.ErrSum", "muezzin/api.ErrNone", "muezzin/api.ErrTwice", "muezzin/api.ErrFull", "muezzin/api.ErrSeq", "muezzin/api.ErrLong", "muezzin/api.ErrWord", "muezzin/api.ErrNumber", "math/bits.deBruijn64tab"], apart := false, laid := [("math/bits.deBruijn64tab", laid_math_bits_deBruijn64tab), ("muezzin/api.ErrEnd", laid_muezzin_api_ErrEnd), ("muezzin/api.ErrShape", laid_muezzin_api_ErrShape), ("muezzin/api.ErrRange", laid_muezzin_api_ErrRange), ("muezzin/api.ErrMany", laid_muezzin_api_ErrMany), ("muezzin/api.ErrKind", laid_muezzin_api_ErrKind), ("muezzin/api.ErrSum", laid_muezzin_api_ErrSum), ("muezzin/api.ErrNone", laid_muezzin_api_ErrNone), ("muezzin/api.ErrTwice", laid_muezzin_api_ErrTwice), ("muezzin/api.ErrFull", laid_muezzin_api_ErrFull), ("muezzin/api.ErrState", laid_muezzin_api_ErrState), ("muezzin/api.ErrSeq", laid_muezzin_api_ErrSeq), ("muezzin/api.ErrLong", laid_muezzin_api_ErrLong), ("muezzin/api.ErrWord", laid_muezzin_api_ErrWord), ("muezzin/api.ErrNumber", laid_muezzin_api_ErrNumber)], narrowed := true }
def BaStatesUptoSaid : Prop := baStatesUptoRow.holds Tryd.pinned (OpenSpec.upto baStatesSpec)

/-- 'muezzinlaw16.BaSeqs', WHERE WHAT IT READS IS OF BULK AT MOST 1048576: true; the input reads as it did. -/
def baSeqsUptoRow : OpenClaim := { program := "ytlbfioknkagboaadoor", sum := "c02f4a8221a5bbaef1d8c98818cecce6be964b265ec563dc9a6d9ec56eb356d2", func := "muezzin/muezzinlaw16.BaSeqs", spec := "baSeqs", unfollowed := true, recurses := true, named := ["muezzin/api.ErrRange", "muezzin/api.ErrState", "muezzin/api.ErrEnd", "muezzin/api.ErrShape", "muezzin/api.ErrMany", "muezzin/api.ErrKind", "muezzin/api.ErrSum", "muezzin/api.ErrNone", "muezzin/api.ErrTwice", "muezzin/api.ErrFull", "muezzin/api.ErrSeq", "muezzin/api.ErrLong", "muezzin/api.ErrWord", "muezzin/api.ErrNumber", "math/bits.deBruijn64tab"], apart := false, laid := [("math/bits.deBruijn64tab", laid_math_bits_deBruijn64tab), ("muezzin/api.ErrEnd", laid_muezzin_api_ErrEnd), ("muezzin/api.ErrShape", laid_muezzin_api_ErrShape), ("muezzin/api.ErrRange", laid_muezzin_api_ErrRange), ("muezzin/api.ErrMany", laid_muezzin_api_ErrMany), ("muezzin/api.ErrKind", laid_muezzin_api_ErrKind), ("muezzin/api.ErrSum", laid_muezzin_api_ErrSum), ("muezzin/api.ErrNone", laid_muezzin_api_ErrNone), ("muezzin/api.ErrTwice", laid_muezzin_api_ErrTwice), ("muezzin/api.ErrFull", laid_muezzin_api_ErrFull), ("muezzin/api.ErrState", laid_muezzin_api_ErrState), ("muezzin/api.ErrSeq", laid_muezzin_api_ErrSeq), ("muezzin/api.ErrLong", laid_muezzin_api_ErrLong), ("muezzin/api.ErrWord", laid_muezzin_api_ErrWord), ("muezzin/api.ErrNumber", laid_muezzin_api_ErrNumber)], narrowed := true }
def BaSeqsUptoSaid : Prop := baSeqsUptoRow.holds Tryd.pinned (OpenSpec.upto baSeqsSpec)

end Rows
end Go.Proofs.YtlbfioknkagboaaDoor
