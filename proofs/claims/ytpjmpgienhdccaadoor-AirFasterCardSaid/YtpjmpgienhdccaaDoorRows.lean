/-
  NARROWER THAN 'FOR EVERY INPUT', by the rows' own cells (each row's printed sentence says how): AirFaster: laid · AirSays: laid · AirGrows: laid · AirMost: laid · AirLegacy: laid.
  DERIVED. THE GIVEN ROWS OF THIS SEAT. 5 by the template 'for every input the law returns true; each argument reads behind the call as it read before'; 0 by the template 'total and deterministic' (their statements: YtpjmpgienhdccaaDoorTotals.lean).
  GIVEN WITH THE SEED: the statements are not yours to turn. If you find one false, say at which input.
  Laid BY PROGRAM, IN A SANDBOX (cutbox-rows.mjs): the forced cells as the released guide's own fill.sh prints them over the translation 391b07c6e912aa64… (all of the seat's roots in one cut). By AI agents, Wed Nov 11 2026. No macro, syntax, notation, axiom, sorry.
-/
import Derived.Test.YtpjmpgienhdccaaDoorChecked
import GoSem.Claim
import GoSem.ClaimJoined
import GoSem.ClaimMapViews
import Derived.JoinedTies
import Derived.KernelRfl
namespace Go.Proofs.YtpjmpgienhdccaaDoor
/- THE CELL 'sum', in the pinned program and in every row, IS THE sha256 OF THE DUMP (.gsa) THAT YtpjmpgienhdccaaDoorProg.lean LOADS. Nothing in Lean hashes anything: it is a label: what it is worth is what the hold of that sum in a sandbox is worth. -/
noncomputable def Tryd.pinned : Pinned := { name := "ytpjmpgienhdccaadoor", sum := "391b07c6e912aa6492536f0dc180a1526fb6fee2db959f82eef0919f6939392c", checked := Tryd.checked }
namespace Rows
def none {H : Type} : Left H := { results := [], args := [] }

/- WHAT THE LISTED PACKAGE-LEVEL VARIABLES READ AS WHEN THE CALL BEGINS. Each datum BY PROGRAM (the guide's laid-datum.mjs) off the statement by which the dump's own 'gosem.cut.vars' lays the variable. In a bare row this is a premise. The card (YtpjmpgienhdccaaDoorCards.lean) ties it to the program's text. -/
def laid_muezzin_rate_legacyBits {H : Type} : DataW H := .agg [.lit (.int .i64 24), .lit (.int .i64 36), .lit (.int .i64 48), .lit (.int .i64 72), .lit (.int .i64 96), .lit (.int .i64 144), .lit (.int .i64 192), .lit (.int .i64 216)]
def laid_muezzin_rate_codings {H : Type} : DataW H := .agg [.agg [.lit (.int .i64 1), .lit (.int .i64 1), .lit (.int .i64 2)], .agg [.lit (.int .i64 2), .lit (.int .i64 1), .lit (.int .i64 2)], .agg [.lit (.int .i64 2), .lit (.int .i64 3), .lit (.int .i64 4)], .agg [.lit (.int .i64 4), .lit (.int .i64 1), .lit (.int .i64 2)], .agg [.lit (.int .i64 4), .lit (.int .i64 3), .lit (.int .i64 4)], .agg [.lit (.int .i64 6), .lit (.int .i64 2), .lit (.int .i64 3)], .agg [.lit (.int .i64 6), .lit (.int .i64 3), .lit (.int .i64 4)], .agg [.lit (.int .i64 6), .lit (.int .i64 5), .lit (.int .i64 6)], .agg [.lit (.int .i64 8), .lit (.int .i64 3), .lit (.int .i64 4)], .agg [.lit (.int .i64 8), .lit (.int .i64 5), .lit (.int .i64 6)], .agg [.lit (.int .i64 10), .lit (.int .i64 3), .lit (.int .i64 4)], .agg [.lit (.int .i64 10), .lit (.int .i64 5), .lit (.int .i64 6)]]

/-- 'muezzinlaw9.AirFaster': WHATEVER THE INPUT: true; the input reads as it did. -/
def airFasterSpec : ChangeSpec := { name := "airFaster", fn := fun _ => fun
  | [d1, d2, d3, d4] => { results := [.lit (.bool true)], args := [d1, d2, d3, d4] }
  | _ => none }
def airFasterRow : OpenClaim := { program := "ytpjmpgienhdccaadoor", sum := "391b07c6e912aa6492536f0dc180a1526fb6fee2db959f82eef0919f6939392c", func := "muezzin/muezzinlaw9.AirFaster", spec := "airFaster", named := ["muezzin/rate.legacyBits", "muezzin/rate.codings"], apart := false, laid := [("muezzin/rate.legacyBits", laid_muezzin_rate_legacyBits), ("muezzin/rate.codings", laid_muezzin_rate_codings)] }
def AirFasterSaid : Prop := airFasterRow.holds Tryd.pinned (OpenSpec.ofChange airFasterSpec)

/-- ITS FALSE NEIGHBOUR: 'it returns false'. Refute it at one input. -/
def airFasterWrong : ChangeSpec := { name := "airFaster", fn := fun _ => fun
  | [d1, d2, d3, d4] => { results := [.lit (.bool false)], args := [d1, d2, d3, d4] }
  | _ => none }
def AirFasterWrongFalsely : Prop := airFasterRow.holds Tryd.pinned (OpenSpec.ofChange airFasterWrong)

/-- 'muezzinlaw9.AirSays': WHATEVER THE INPUT: true; the input reads as it did. -/
def airSaysSpec : ChangeSpec := { name := "airSays", fn := fun _ => fun
  | [d1, d2, d3] => { results := [.lit (.bool true)], args := [d1, d2, d3] }
  | _ => none }
def airSaysRow : OpenClaim := { program := "ytpjmpgienhdccaadoor", sum := "391b07c6e912aa6492536f0dc180a1526fb6fee2db959f82eef0919f6939392c", func := "muezzin/muezzinlaw9.AirSays", spec := "airSays", named := ["muezzin/rate.legacyBits", "muezzin/rate.codings"], apart := false, laid := [("muezzin/rate.legacyBits", laid_muezzin_rate_legacyBits), ("muezzin/rate.codings", laid_muezzin_rate_codings)] }
def AirSaysSaid : Prop := airSaysRow.holds Tryd.pinned (OpenSpec.ofChange airSaysSpec)

/-- ITS FALSE NEIGHBOUR: 'it returns false'. Refute it at one input. -/
def airSaysWrong : ChangeSpec := { name := "airSays", fn := fun _ => fun
  | [d1, d2, d3] => { results := [.lit (.bool false)], args := [d1, d2, d3] }
  | _ => none }
def AirSaysWrongFalsely : Prop := airSaysRow.holds Tryd.pinned (OpenSpec.ofChange airSaysWrong)

/-- 'muezzinlaw9.AirGrows': WHATEVER THE INPUT: true; the input reads as it did. -/
def airGrowsSpec : ChangeSpec := { name := "airGrows", fn := fun _ => fun
  | [d1, d2, d3, d4] => { results := [.lit (.bool true)], args := [d1, d2, d3, d4] }
  | _ => none }
def airGrowsRow : OpenClaim := { program := "ytpjmpgienhdccaadoor", sum := "391b07c6e912aa6492536f0dc180a1526fb6fee2db959f82eef0919f6939392c", func := "muezzin/muezzinlaw9.AirGrows", spec := "airGrows", named := ["muezzin/rate.legacyBits", "muezzin/rate.codings"], apart := false, laid := [("muezzin/rate.legacyBits", laid_muezzin_rate_legacyBits), ("muezzin/rate.codings", laid_muezzin_rate_codings)] }
def AirGrowsSaid : Prop := airGrowsRow.holds Tryd.pinned (OpenSpec.ofChange airGrowsSpec)

/-- ITS FALSE NEIGHBOUR: 'it returns false'. Refute it at one input. -/
def airGrowsWrong : ChangeSpec := { name := "airGrows", fn := fun _ => fun
  | [d1, d2, d3, d4] => { results := [.lit (.bool false)], args := [d1, d2, d3, d4] }
  | _ => none }
def AirGrowsWrongFalsely : Prop := airGrowsRow.holds Tryd.pinned (OpenSpec.ofChange airGrowsWrong)

/-- 'muezzinlaw9.AirMost': WHATEVER THE INPUT: true; the input reads as it did. -/
def airMostSpec : ChangeSpec := { name := "airMost", fn := fun _ => fun
  | [d1, d2, d3, d4] => { results := [.lit (.bool true)], args := [d1, d2, d3, d4] }
  | _ => none }
def airMostRow : OpenClaim := { program := "ytpjmpgienhdccaadoor", sum := "391b07c6e912aa6492536f0dc180a1526fb6fee2db959f82eef0919f6939392c", func := "muezzin/muezzinlaw9.AirMost", spec := "airMost", named := ["muezzin/rate.legacyBits", "muezzin/rate.codings"], apart := false, laid := [("muezzin/rate.legacyBits", laid_muezzin_rate_legacyBits), ("muezzin/rate.codings", laid_muezzin_rate_codings)] }
def AirMostSaid : Prop := airMostRow.holds Tryd.pinned (OpenSpec.ofChange airMostSpec)

/-- ITS FALSE NEIGHBOUR: 'it returns false'. Refute it at one input. -/
def airMostWrong : ChangeSpec := { name := "airMost", fn := fun _ => fun
  | [d1, d2, d3, d4] => { results := [.lit (.bool false)], args := [d1, d2, d3, d4] }
  | _ => none }
def AirMostWrongFalsely : Prop := airMostRow.holds Tryd.pinned (OpenSpec.ofChange airMostWrong)

/-- 'muezzinlaw9.AirLegacy': WHATEVER THE INPUT: true; the input reads as it did. -/
def airLegacySpec : ChangeSpec := { name := "airLegacy", fn := fun _ => fun
  | [d1, d2] => { results := [.lit (.bool true)], args := [d1, d2] }
  | _ => none }
def airLegacyRow : OpenClaim := { program := "ytpjmpgienhdccaadoor", sum := "391b07c6e912aa6492536f0dc180a1526fb6fee2db959f82eef0919f6939392c", func := "muezzin/muezzinlaw9.AirLegacy", spec := "airLegacy", named := ["muezzin/rate.legacyBits", "muezzin/rate.codings"], apart := false, laid := [("muezzin/rate.legacyBits", laid_muezzin_rate_legacyBits), ("muezzin/rate.codings", laid_muezzin_rate_codings)] }
def AirLegacySaid : Prop := airLegacyRow.holds Tryd.pinned (OpenSpec.ofChange airLegacySpec)

/-- ITS FALSE NEIGHBOUR: 'it returns false'. Refute it at one input. -/
def airLegacyWrong : ChangeSpec := { name := "airLegacy", fn := fun _ => fun
  | [d1, d2] => { results := [.lit (.bool false)], args := [d1, d2] }
  | _ => none }
def AirLegacyWrongFalsely : Prop := airLegacyRow.holds Tryd.pinned (OpenSpec.ofChange airLegacyWrong)

/- THE SECOND FORM. 'bulk': how many values and letters a reading holds, each counted each time it is reached (what is shared counts as often as it is met; a slice's spare places count too). A statement '..UptoSaid' is the law's where the arguments, and the package variables that the reading takes, are together of bulk at most 1048576: NARROWER than '..Said'. Prove '..Said' where nothing that the law and all that it calls make is longer than what came in: it says more and counts as full. Else prove '..UptoSaid'. A law counts once. -/
mutual
def uptoBulk {H : Type} : DataW H → Nat
  | .lit (.string bytes) => bytes.length + 1
  | .lit _ => 1
  | .nil => 1
  | .ptr d => uptoBulk d + 1
  | .slice elems spare => uptoBulkAll elems + uptoBulkAll spare + 1
  | .agg parts => uptoBulkAll parts + 1
  | .iface _ d => uptoBulk d + 1
  | .map entries => uptoBulkEntries entries + 1
  | .held _ => 1
def uptoBulkAll {H : Type} : List (DataW H) → Nat
  | [] => 0
  | d :: r => uptoBulk d + uptoBulkAll r
def uptoBulkEntries {H : Type} : List (Lit × DataW H) → Nat
  | [] => 0
  | x :: r => uptoBulkEntry x + uptoBulkEntries r
def uptoBulkEntry {H : Type} : Lit × DataW H → Nat
  | (.string bytes, d) => bytes.length + uptoBulk d + 1
  | (_, d) => uptoBulk d + 1
 end
def uptoSmall : (H : Type) → List (DataW H) → Bool := fun _ ds => decide (uptoBulkAll ds ≤ 1048576)
def OpenSpec.upto (s : _root_.Go.ChangeSpec) : _root_.Go.OpenSpec := { _root_.Go.OpenSpec.ofChange s with cond := some uptoSmall }

/-- 'muezzinlaw9.AirFaster', WHERE WHAT IT READS IS OF BULK AT MOST 1048576: true; the input reads as it did. -/
def airFasterUptoRow : OpenClaim := { program := "ytpjmpgienhdccaadoor", sum := "391b07c6e912aa6492536f0dc180a1526fb6fee2db959f82eef0919f6939392c", func := "muezzin/muezzinlaw9.AirFaster", spec := "airFaster", named := ["muezzin/rate.legacyBits", "muezzin/rate.codings"], apart := false, laid := [("muezzin/rate.legacyBits", laid_muezzin_rate_legacyBits), ("muezzin/rate.codings", laid_muezzin_rate_codings)], narrowed := true }
def AirFasterUptoSaid : Prop := airFasterUptoRow.holds Tryd.pinned (OpenSpec.upto airFasterSpec)

/-- 'muezzinlaw9.AirSays', WHERE WHAT IT READS IS OF BULK AT MOST 1048576: true; the input reads as it did. -/
def airSaysUptoRow : OpenClaim := { program := "ytpjmpgienhdccaadoor", sum := "391b07c6e912aa6492536f0dc180a1526fb6fee2db959f82eef0919f6939392c", func := "muezzin/muezzinlaw9.AirSays", spec := "airSays", named := ["muezzin/rate.legacyBits", "muezzin/rate.codings"], apart := false, laid := [("muezzin/rate.legacyBits", laid_muezzin_rate_legacyBits), ("muezzin/rate.codings", laid_muezzin_rate_codings)], narrowed := true }
def AirSaysUptoSaid : Prop := airSaysUptoRow.holds Tryd.pinned (OpenSpec.upto airSaysSpec)

/-- 'muezzinlaw9.AirGrows', WHERE WHAT IT READS IS OF BULK AT MOST 1048576: true; the input reads as it did. -/
def airGrowsUptoRow : OpenClaim := { program := "ytpjmpgienhdccaadoor", sum := "391b07c6e912aa6492536f0dc180a1526fb6fee2db959f82eef0919f6939392c", func := "muezzin/muezzinlaw9.AirGrows", spec := "airGrows", named := ["muezzin/rate.legacyBits", "muezzin/rate.codings"], apart := false, laid := [("muezzin/rate.legacyBits", laid_muezzin_rate_legacyBits), ("muezzin/rate.codings", laid_muezzin_rate_codings)], narrowed := true }
def AirGrowsUptoSaid : Prop := airGrowsUptoRow.holds Tryd.pinned (OpenSpec.upto airGrowsSpec)

/-- 'muezzinlaw9.AirMost', WHERE WHAT IT READS IS OF BULK AT MOST 1048576: true; the input reads as it did. -/
def airMostUptoRow : OpenClaim := { program := "ytpjmpgienhdccaadoor", sum := "391b07c6e912aa6492536f0dc180a1526fb6fee2db959f82eef0919f6939392c", func := "muezzin/muezzinlaw9.AirMost", spec := "airMost", named := ["muezzin/rate.legacyBits", "muezzin/rate.codings"], apart := false, laid := [("muezzin/rate.legacyBits", laid_muezzin_rate_legacyBits), ("muezzin/rate.codings", laid_muezzin_rate_codings)], narrowed := true }
def AirMostUptoSaid : Prop := airMostUptoRow.holds Tryd.pinned (OpenSpec.upto airMostSpec)

/-- 'muezzinlaw9.AirLegacy', WHERE WHAT IT READS IS OF BULK AT MOST 1048576: true; the input reads as it did. -/
def airLegacyUptoRow : OpenClaim := { program := "ytpjmpgienhdccaadoor", sum := "391b07c6e912aa6492536f0dc180a1526fb6fee2db959f82eef0919f6939392c", func := "muezzin/muezzinlaw9.AirLegacy", spec := "airLegacy", named := ["muezzin/rate.legacyBits", "muezzin/rate.codings"], apart := false, laid := [("muezzin/rate.legacyBits", laid_muezzin_rate_legacyBits), ("muezzin/rate.codings", laid_muezzin_rate_codings)], narrowed := true }
def AirLegacyUptoSaid : Prop := airLegacyUptoRow.holds Tryd.pinned (OpenSpec.upto airLegacySpec)

end Rows
end Go.Proofs.YtpjmpgienhdccaaDoor
