/-
  NARROWER THAN 'FOR EVERY INPUT', by the rows' own cells (each row's printed sentence says how): BuildSays: laid · BuildMost: laid · BuildAlone: laid · BuildSame: laid.
  DERIVED. THE GIVEN ROWS OF THIS SEAT. 4 by the template 'for every input the law returns true; each argument reads behind the call as it read before'; 0 by the template 'total and deterministic' (their statements: YtlkoleannlpflaaDoorTotals.lean).
  GIVEN WITH THE SEED: the statements are not yours to turn. If you find one false, say at which input.
  Laid BY PROGRAM, IN A SANDBOX (cutbox-rows.mjs): the forced cells as the released guide's own fill.sh prints them over the translation cabf0542b95c3f86… (all of the seat's roots in one cut). By AI agents, Wed Nov 11 2026. No macro, syntax, notation, axiom, sorry.
-/
import Derived.Test.YtlkoleannlpflaaDoorChecked
import GoSem.Claim
import GoSem.ClaimJoined
import GoSem.ClaimMapViews
import Derived.JoinedTies
import Derived.KernelRfl
namespace Go.Proofs.YtlkoleannlpflaaDoor
/- THE CELL 'sum', in the pinned program and in every row, IS THE sha256 OF THE DUMP (.gsa) THAT YtlkoleannlpflaaDoorProg.lean LOADS. Nothing in Lean hashes anything: it is a label: what it is worth is what the hold of that sum in a sandbox is worth. -/
noncomputable def Tryd.pinned : Pinned := { name := "ytlkoleannlpflaadoor", sum := "cabf0542b95c3f869bf46a25cb6e05ee97c4a1e3691dfac38a54bd1b56b8630a", checked := Tryd.checked }
namespace Rows
def none {H : Type} : Left H := { results := [], args := [] }

/- WHAT THE LISTED PACKAGE-LEVEL VARIABLES READ AS WHEN THE CALL BEGINS. Each datum BY PROGRAM (the guide's laid-datum.mjs) off the statement by which the dump's own 'gosem.cut.vars' lays the variable. In a bare row this is a premise. The card (YtlkoleannlpflaaDoorCards.lean) ties it to the program's text. -/
def laid_muezzin_rate_legacyBits {H : Type} : DataW H := .agg [.lit (.int .i64 24), .lit (.int .i64 36), .lit (.int .i64 48), .lit (.int .i64 72), .lit (.int .i64 96), .lit (.int .i64 144), .lit (.int .i64 192), .lit (.int .i64 216)]
def laid_muezzin_rate_codings {H : Type} : DataW H := .agg [.agg [.lit (.int .i64 1), .lit (.int .i64 1), .lit (.int .i64 2)], .agg [.lit (.int .i64 2), .lit (.int .i64 1), .lit (.int .i64 2)], .agg [.lit (.int .i64 2), .lit (.int .i64 3), .lit (.int .i64 4)], .agg [.lit (.int .i64 4), .lit (.int .i64 1), .lit (.int .i64 2)], .agg [.lit (.int .i64 4), .lit (.int .i64 3), .lit (.int .i64 4)], .agg [.lit (.int .i64 6), .lit (.int .i64 2), .lit (.int .i64 3)], .agg [.lit (.int .i64 6), .lit (.int .i64 3), .lit (.int .i64 4)], .agg [.lit (.int .i64 6), .lit (.int .i64 5), .lit (.int .i64 6)], .agg [.lit (.int .i64 8), .lit (.int .i64 3), .lit (.int .i64 4)], .agg [.lit (.int .i64 8), .lit (.int .i64 5), .lit (.int .i64 6)], .agg [.lit (.int .i64 10), .lit (.int .i64 3), .lit (.int .i64 4)], .agg [.lit (.int .i64 10), .lit (.int .i64 5), .lit (.int .i64 6)]]

/-- 'muezzinlaw17.BuildSays': WHATEVER THE INPUT: true; the input reads as it did. -/
def buildSaysSpec : ChangeSpec := { name := "buildSays", fn := fun _ => fun
  | [d1, d2, d3] => { results := [.lit (.bool true)], args := [d1, d2, d3] }
  | _ => none }
def buildSaysRow : OpenClaim := { program := "ytlkoleannlpflaadoor", sum := "cabf0542b95c3f869bf46a25cb6e05ee97c4a1e3691dfac38a54bd1b56b8630a", func := "muezzin/muezzinlaw17.BuildSays", spec := "buildSays", unfollowed := true, recurses := true, named := ["muezzin/rate.legacyBits", "muezzin/rate.codings"], apart := false, laid := [("muezzin/rate.legacyBits", laid_muezzin_rate_legacyBits), ("muezzin/rate.codings", laid_muezzin_rate_codings)] }
def BuildSaysSaid : Prop := buildSaysRow.holds Tryd.pinned (OpenSpec.ofChange buildSaysSpec)

/-- ITS FALSE NEIGHBOUR: 'it returns false'. Refute it at one input. -/
def buildSaysWrong : ChangeSpec := { name := "buildSays", fn := fun _ => fun
  | [d1, d2, d3] => { results := [.lit (.bool false)], args := [d1, d2, d3] }
  | _ => none }
def BuildSaysWrongFalsely : Prop := buildSaysRow.holds Tryd.pinned (OpenSpec.ofChange buildSaysWrong)

/-- 'muezzinlaw17.BuildMost': WHATEVER THE INPUT: true; the input reads as it did. -/
def buildMostSpec : ChangeSpec := { name := "buildMost", fn := fun _ => fun
  | [d1, d2, d3, d4] => { results := [.lit (.bool true)], args := [d1, d2, d3, d4] }
  | _ => none }
def buildMostRow : OpenClaim := { program := "ytlkoleannlpflaadoor", sum := "cabf0542b95c3f869bf46a25cb6e05ee97c4a1e3691dfac38a54bd1b56b8630a", func := "muezzin/muezzinlaw17.BuildMost", spec := "buildMost", unfollowed := true, recurses := true, named := ["muezzin/rate.legacyBits", "muezzin/rate.codings"], apart := false, laid := [("muezzin/rate.legacyBits", laid_muezzin_rate_legacyBits), ("muezzin/rate.codings", laid_muezzin_rate_codings)] }
def BuildMostSaid : Prop := buildMostRow.holds Tryd.pinned (OpenSpec.ofChange buildMostSpec)

/-- ITS FALSE NEIGHBOUR: 'it returns false'. Refute it at one input. -/
def buildMostWrong : ChangeSpec := { name := "buildMost", fn := fun _ => fun
  | [d1, d2, d3, d4] => { results := [.lit (.bool false)], args := [d1, d2, d3, d4] }
  | _ => none }
def BuildMostWrongFalsely : Prop := buildMostRow.holds Tryd.pinned (OpenSpec.ofChange buildMostWrong)

/-- 'muezzinlaw17.BuildAlone': WHATEVER THE INPUT: true; the input reads as it did. -/
def buildAloneSpec : ChangeSpec := { name := "buildAlone", fn := fun _ => fun
  | [d1, d2, d3] => { results := [.lit (.bool true)], args := [d1, d2, d3] }
  | _ => none }
def buildAloneRow : OpenClaim := { program := "ytlkoleannlpflaadoor", sum := "cabf0542b95c3f869bf46a25cb6e05ee97c4a1e3691dfac38a54bd1b56b8630a", func := "muezzin/muezzinlaw17.BuildAlone", spec := "buildAlone", unfollowed := true, recurses := true, named := ["muezzin/rate.legacyBits", "muezzin/rate.codings"], apart := false, laid := [("muezzin/rate.legacyBits", laid_muezzin_rate_legacyBits), ("muezzin/rate.codings", laid_muezzin_rate_codings)] }
def BuildAloneSaid : Prop := buildAloneRow.holds Tryd.pinned (OpenSpec.ofChange buildAloneSpec)

/-- ITS FALSE NEIGHBOUR: 'it returns false'. Refute it at one input. -/
def buildAloneWrong : ChangeSpec := { name := "buildAlone", fn := fun _ => fun
  | [d1, d2, d3] => { results := [.lit (.bool false)], args := [d1, d2, d3] }
  | _ => none }
def BuildAloneWrongFalsely : Prop := buildAloneRow.holds Tryd.pinned (OpenSpec.ofChange buildAloneWrong)

/-- 'muezzinlaw17.BuildSame': WHATEVER THE INPUT: true; the input reads as it did. -/
def buildSameSpec : ChangeSpec := { name := "buildSame", fn := fun _ => fun
  | [d1, d2, d3, d4, d5] => { results := [.lit (.bool true)], args := [d1, d2, d3, d4, d5] }
  | _ => none }
def buildSameRow : OpenClaim := { program := "ytlkoleannlpflaadoor", sum := "cabf0542b95c3f869bf46a25cb6e05ee97c4a1e3691dfac38a54bd1b56b8630a", func := "muezzin/muezzinlaw17.BuildSame", spec := "buildSame", unfollowed := true, recurses := true, named := ["muezzin/rate.legacyBits", "muezzin/rate.codings"], apart := false, laid := [("muezzin/rate.legacyBits", laid_muezzin_rate_legacyBits), ("muezzin/rate.codings", laid_muezzin_rate_codings)] }
def BuildSameSaid : Prop := buildSameRow.holds Tryd.pinned (OpenSpec.ofChange buildSameSpec)

/-- ITS FALSE NEIGHBOUR: 'it returns false'. Refute it at one input. -/
def buildSameWrong : ChangeSpec := { name := "buildSame", fn := fun _ => fun
  | [d1, d2, d3, d4, d5] => { results := [.lit (.bool false)], args := [d1, d2, d3, d4, d5] }
  | _ => none }
def BuildSameWrongFalsely : Prop := buildSameRow.holds Tryd.pinned (OpenSpec.ofChange buildSameWrong)

/- THE SECOND FORM. 'bulk': how many values and letters a reading holds, each counted each time it is reached (what is shared counts as often as it is met; a slice's spare places count too). A statement '..UptoSaid' is the law's where the arguments, and the package variables that the reading takes, are together of bulk at most 1048576: NARROWER than '..Said'. Prove '..Said' where nothing that the law and all that it calls make is longer than what came in: it says more and counts as full. Else prove '..UptoSaid'. A law counts once. -/
mutual
def uptoBulk {H : Type} : DataW H → Nat
  | .lit (.string bytes) => bytes.length + 1
  | .lit _ => 1
  | .nil => 1
  | .ptr d => uptoBulk d + 1
  | .slice elems spare => uptoBulkAll elems + uptoBulkAll spare + 1
  | .agg parts => uptoBulkAll parts + 1
  | .iface _ d => uptoBulk d + 1
  | .map entries => uptoBulkEntries entries + 1
  | .held _ => 1
def uptoBulkAll {H : Type} : List (DataW H) → Nat
  | [] => 0
  | d :: r => uptoBulk d + uptoBulkAll r
def uptoBulkEntries {H : Type} : List (Lit × DataW H) → Nat
  | [] => 0
  | x :: r => uptoBulkEntry x + uptoBulkEntries r
def uptoBulkEntry {H : Type} : Lit × DataW H → Nat
  | (.string bytes, d) => bytes.length + uptoBulk d + 1
  | (_, d) => uptoBulk d + 1
 end
def uptoSmall : (H : Type) → List (DataW H) → Bool := fun _ ds => decide (uptoBulkAll ds ≤ 1048576)
def OpenSpec.upto (s : _root_.Go.ChangeSpec) : _root_.Go.OpenSpec := { _root_.Go.OpenSpec.ofChange s with cond := some uptoSmall }

/-- 'muezzinlaw17.BuildSays', WHERE WHAT IT READS IS OF BULK AT MOST 1048576: true; the input reads as it did. -/
def buildSaysUptoRow : OpenClaim := { program := "ytlkoleannlpflaadoor", sum := "cabf0542b95c3f869bf46a25cb6e05ee97c4a1e3691dfac38a54bd1b56b8630a", func := "muezzin/muezzinlaw17.BuildSays", spec := "buildSays", unfollowed := true, recurses := true, named := ["muezzin/rate.legacyBits", "muezzin/rate.codings"], apart := false, laid := [("muezzin/rate.legacyBits", laid_muezzin_rate_legacyBits), ("muezzin/rate.codings", laid_muezzin_rate_codings)], narrowed := true }
def BuildSaysUptoSaid : Prop := buildSaysUptoRow.holds Tryd.pinned (OpenSpec.upto buildSaysSpec)

/-- 'muezzinlaw17.BuildMost', WHERE WHAT IT READS IS OF BULK AT MOST 1048576: true; the input reads as it did. -/
def buildMostUptoRow : OpenClaim := { program := "ytlkoleannlpflaadoor", sum := "cabf0542b95c3f869bf46a25cb6e05ee97c4a1e3691dfac38a54bd1b56b8630a", func := "muezzin/muezzinlaw17.BuildMost", spec := "buildMost", unfollowed := true, recurses := true, named := ["muezzin/rate.legacyBits", "muezzin/rate.codings"], apart := false, laid := [("muezzin/rate.legacyBits", laid_muezzin_rate_legacyBits), ("muezzin/rate.codings", laid_muezzin_rate_codings)], narrowed := true }
def BuildMostUptoSaid : Prop := buildMostUptoRow.holds Tryd.pinned (OpenSpec.upto buildMostSpec)

/-- 'muezzinlaw17.BuildAlone', WHERE WHAT IT READS IS OF BULK AT MOST 1048576: true; the input reads as it did. -/
def buildAloneUptoRow : OpenClaim := { program := "ytlkoleannlpflaadoor", sum := "cabf0542b95c3f869bf46a25cb6e05ee97c4a1e3691dfac38a54bd1b56b8630a", func := "muezzin/muezzinlaw17.BuildAlone", spec := "buildAlone", unfollowed := true, recurses := true, named := ["muezzin/rate.legacyBits", "muezzin/rate.codings"], apart := false, laid := [("muezzin/rate.legacyBits", laid_muezzin_rate_legacyBits), ("muezzin/rate.codings", laid_muezzin_rate_codings)], narrowed := true }
def BuildAloneUptoSaid : Prop := buildAloneUptoRow.holds Tryd.pinned (OpenSpec.upto buildAloneSpec)

/-- 'muezzinlaw17.BuildSame', WHERE WHAT IT READS IS OF BULK AT MOST 1048576: true; the input reads as it did. -/
def buildSameUptoRow : OpenClaim := { program := "ytlkoleannlpflaadoor", sum := "cabf0542b95c3f869bf46a25cb6e05ee97c4a1e3691dfac38a54bd1b56b8630a", func := "muezzin/muezzinlaw17.BuildSame", spec := "buildSame", unfollowed := true, recurses := true, named := ["muezzin/rate.legacyBits", "muezzin/rate.codings"], apart := false, laid := [("muezzin/rate.legacyBits", laid_muezzin_rate_legacyBits), ("muezzin/rate.codings", laid_muezzin_rate_codings)], narrowed := true }
def BuildSameUptoSaid : Prop := buildSameUptoRow.holds Tryd.pinned (OpenSpec.upto buildSameSpec)

end Rows
end Go.Proofs.YtlkoleannlpflaaDoor
