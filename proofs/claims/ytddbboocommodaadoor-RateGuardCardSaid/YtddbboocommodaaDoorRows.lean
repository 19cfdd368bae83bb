/-
  NARROWER THAN 'FOR EVERY INPUT', by the rows' own cells (each row's printed sentence says how): RateGuard: laid · RateSays: laid · RateGrows: laid · RateMany: laid.
  DERIVED. THE GIVEN ROWS OF THIS SEAT. 4 by the template 'for every input the law returns true; each argument reads behind the call as it read before'; 0 by the template 'total and deterministic' (their statements: YtddbboocommodaaDoorTotals.lean).
  GIVEN WITH THE SEED: the statements are not yours to turn. If you find one false, say at which input.
  Laid BY PROGRAM, IN A SANDBOX (cutbox-rows.mjs): the forced cells as the released guide's own fill.sh prints them over the translation d28c58dbab1fd0ac… (all of the seat's roots in one cut). By AI agents, Wed Nov 11 2026. No macro, syntax, notation, axiom, sorry.
-/
import Derived.Test.YtddbboocommodaaDoorChecked
import GoSem.Claim
import GoSem.ClaimJoined
import GoSem.ClaimMapViews
import Derived.JoinedTies
import Derived.KernelRfl
namespace Go.Proofs.YtddbboocommodaaDoor
/- THE CELL 'sum', in the pinned program and in every row, IS THE sha256 OF THE DUMP (.gsa) THAT YtddbboocommodaaDoorProg.lean LOADS. Nothing in Lean hashes anything: it is a label: what it is worth is what the hold of that sum in a sandbox is worth. -/
noncomputable def Tryd.pinned : Pinned := { name := "ytddbboocommodaadoor", sum := "d28c58dbab1fd0ac9a6163395957d70359c7a3dae8f5c4a7403f9b8dc2ac0f8b", checked := Tryd.checked }
namespace Rows
def none {H : Type} : Left H := { results := [], args := [] }

/- WHAT THE LISTED PACKAGE-LEVEL VARIABLES READ AS WHEN THE CALL BEGINS. Each datum BY PROGRAM (the guide's laid-datum.mjs) off the statement by which the dump's own 'gosem.cut.vars' lays the variable. In a bare row this is a premise. The card (YtddbboocommodaaDoorCards.lean) ties it to the program's text. -/
def laid_muezzin_rate_legacyBits {H : Type} : DataW H := .agg [.lit (.int .i64 24), .lit (.int .i64 36), .lit (.int .i64 48), .lit (.int .i64 72), .lit (.int .i64 96), .lit (.int .i64 144), .lit (.int .i64 192), .lit (.int .i64 216)]
def laid_muezzin_rate_codings {H : Type} : DataW H := .agg [.agg [.lit (.int .i64 1), .lit (.int .i64 1), .lit (.int .i64 2)], .agg [.lit (.int .i64 2), .lit (.int .i64 1), .lit (.int .i64 2)], .agg [.lit (.int .i64 2), .lit (.int .i64 3), .lit (.int .i64 4)], .agg [.lit (.int .i64 4), .lit (.int .i64 1), .lit (.int .i64 2)], .agg [.lit (.int .i64 4), .lit (.int .i64 3), .lit (.int .i64 4)], .agg [.lit (.int .i64 6), .lit (.int .i64 2), .lit (.int .i64 3)], .agg [.lit (.int .i64 6), .lit (.int .i64 3), .lit (.int .i64 4)], .agg [.lit (.int .i64 6), .lit (.int .i64 5), .lit (.int .i64 6)], .agg [.lit (.int .i64 8), .lit (.int .i64 3), .lit (.int .i64 4)], .agg [.lit (.int .i64 8), .lit (.int .i64 5), .lit (.int .i64 6)], .agg [.lit (.int .i64 10), .lit (.int .i64 3), .lit (.int .i64 4)], .agg [.lit (.int .i64 10), .lit (.int .i64 5), .lit (.int .i64 6)]]

/-- 'muezzinlaw8.RateGuard': WHATEVER THE INPUT: true; the input reads as it did. -/
def rateGuardSpec : ChangeSpec := { name := "rateGuard", fn := fun _ => fun
  | [d1, d2, d3] => { results := [.lit (.bool true)], args := [d1, d2, d3] }
  | _ => none }
def rateGuardRow : OpenClaim := { program := "ytddbboocommodaadoor", sum := "d28c58dbab1fd0ac9a6163395957d70359c7a3dae8f5c4a7403f9b8dc2ac0f8b", func := "muezzin/muezzinlaw8.RateGuard", spec := "rateGuard", named := ["muezzin/rate.legacyBits", "muezzin/rate.codings"], apart := false, laid := [("muezzin/rate.legacyBits", laid_muezzin_rate_legacyBits), ("muezzin/rate.codings", laid_muezzin_rate_codings)] }
def RateGuardSaid : Prop := rateGuardRow.holds Tryd.pinned (OpenSpec.ofChange rateGuardSpec)

/-- ITS FALSE NEIGHBOUR: 'it returns false'. Refute it at one input. -/
def rateGuardWrong : ChangeSpec := { name := "rateGuard", fn := fun _ => fun
  | [d1, d2, d3] => { results := [.lit (.bool false)], args := [d1, d2, d3] }
  | _ => none }
def RateGuardWrongFalsely : Prop := rateGuardRow.holds Tryd.pinned (OpenSpec.ofChange rateGuardWrong)

/-- 'muezzinlaw8.RateSays': WHATEVER THE INPUT: true; the input reads as it did. -/
def rateSaysSpec : ChangeSpec := { name := "rateSays", fn := fun _ => fun
  | [d1, d2] => { results := [.lit (.bool true)], args := [d1, d2] }
  | _ => none }
def rateSaysRow : OpenClaim := { program := "ytddbboocommodaadoor", sum := "d28c58dbab1fd0ac9a6163395957d70359c7a3dae8f5c4a7403f9b8dc2ac0f8b", func := "muezzin/muezzinlaw8.RateSays", spec := "rateSays", named := ["muezzin/rate.legacyBits", "muezzin/rate.codings"], apart := false, laid := [("muezzin/rate.legacyBits", laid_muezzin_rate_legacyBits), ("muezzin/rate.codings", laid_muezzin_rate_codings)] }
def RateSaysSaid : Prop := rateSaysRow.holds Tryd.pinned (OpenSpec.ofChange rateSaysSpec)

/-- ITS FALSE NEIGHBOUR: 'it returns false'. Refute it at one input. -/
def rateSaysWrong : ChangeSpec := { name := "rateSays", fn := fun _ => fun
  | [d1, d2] => { results := [.lit (.bool false)], args := [d1, d2] }
  | _ => none }
def RateSaysWrongFalsely : Prop := rateSaysRow.holds Tryd.pinned (OpenSpec.ofChange rateSaysWrong)

/-- 'muezzinlaw8.RateGrows': WHATEVER THE INPUT: true; the input reads as it did. -/
def rateGrowsSpec : ChangeSpec := { name := "rateGrows", fn := fun _ => fun
  | [d1, d2, d3] => { results := [.lit (.bool true)], args := [d1, d2, d3] }
  | _ => none }
def rateGrowsRow : OpenClaim := { program := "ytddbboocommodaadoor", sum := "d28c58dbab1fd0ac9a6163395957d70359c7a3dae8f5c4a7403f9b8dc2ac0f8b", func := "muezzin/muezzinlaw8.RateGrows", spec := "rateGrows", named := ["muezzin/rate.legacyBits", "muezzin/rate.codings"], apart := false, laid := [("muezzin/rate.legacyBits", laid_muezzin_rate_legacyBits), ("muezzin/rate.codings", laid_muezzin_rate_codings)] }
def RateGrowsSaid : Prop := rateGrowsRow.holds Tryd.pinned (OpenSpec.ofChange rateGrowsSpec)

/-- ITS FALSE NEIGHBOUR: 'it returns false'. Refute it at one input. -/
def rateGrowsWrong : ChangeSpec := { name := "rateGrows", fn := fun _ => fun
  | [d1, d2, d3] => { results := [.lit (.bool false)], args := [d1, d2, d3] }
  | _ => none }
def RateGrowsWrongFalsely : Prop := rateGrowsRow.holds Tryd.pinned (OpenSpec.ofChange rateGrowsWrong)

/-- 'muezzinlaw8.RateMany': WHATEVER THE INPUT: true; the input reads as it did. -/
def rateManySpec : ChangeSpec := { name := "rateMany", fn := fun _ => fun
  | [d] => { results := [.lit (.bool true)], args := [d] }
  | _ => none }
def rateManyRow : OpenClaim := { program := "ytddbboocommodaadoor", sum := "d28c58dbab1fd0ac9a6163395957d70359c7a3dae8f5c4a7403f9b8dc2ac0f8b", func := "muezzin/muezzinlaw8.RateMany", spec := "rateMany", named := ["muezzin/rate.legacyBits", "muezzin/rate.codings"], apart := false, laid := [("muezzin/rate.legacyBits", laid_muezzin_rate_legacyBits), ("muezzin/rate.codings", laid_muezzin_rate_codings)] }
def RateManySaid : Prop := rateManyRow.holds Tryd.pinned (OpenSpec.ofChange rateManySpec)

/-- ITS FALSE NEIGHBOUR: 'it returns false'. Refute it at one input. -/
def rateManyWrong : ChangeSpec := { name := "rateMany", fn := fun _ => fun
  | [d] => { results := [.lit (.bool false)], args := [d] }
  | _ => none }
def RateManyWrongFalsely : Prop := rateManyRow.holds Tryd.pinned (OpenSpec.ofChange rateManyWrong)

/- THE SECOND FORM. 'bulk': how many values and letters a reading holds, each counted each time it is reached (what is shared counts as often as it is met; a slice's spare places count too). A statement '..UptoSaid' is the law's where the arguments, and the package variables that the reading takes, are together of bulk at most 1048576: NARROWER than '..Said'. Prove '..Said' where nothing that the law and all that it calls make is longer than what came in: it says more and counts as full. Else prove '..UptoSaid'. A law counts once. -/
mutual
def uptoBulk {H : Type} : DataW H → Nat
  | .lit (.string bytes) => bytes.length + 1
  | .lit _ => 1
  | .nil => 1
  | .ptr d => uptoBulk d + 1
  | .slice elems spare => uptoBulkAll elems + uptoBulkAll spare + 1
  | .agg parts => uptoBulkAll parts + 1
  | .iface _ d => uptoBulk d + 1
  | .map entries => uptoBulkEntries entries + 1
  | .held _ => 1
def uptoBulkAll {H : Type} : List (DataW H) → Nat
  | [] => 0
  | d :: r => uptoBulk d + uptoBulkAll r
def uptoBulkEntries {H : Type} : List (Lit × DataW H) → Nat
  | [] => 0
  | x :: r => uptoBulkEntry x + uptoBulkEntries r
def uptoBulkEntry {H : Type} : Lit × DataW H → Nat
  | (.string bytes, d) => bytes.length + uptoBulk d + 1
  | (_, d) => uptoBulk d + 1
 end
def uptoSmall : (H : Type) → List (DataW H) → Bool := fun _ ds => decide (uptoBulkAll ds ≤ 1048576)
def OpenSpec.upto (s : _root_.Go.ChangeSpec) : _root_.Go.OpenSpec := { _root_.Go.OpenSpec.ofChange s with cond := some uptoSmall }

/-- 'muezzinlaw8.RateGuard', WHERE WHAT IT READS IS OF BULK AT MOST 1048576: true; the input reads as it did. -/
def rateGuardUptoRow : OpenClaim := { program := "ytddbboocommodaadoor", sum := "d28c58dbab1fd0ac9a6163395957d70359c7a3dae8f5c4a7403f9b8dc2ac0f8b", func := "muezzin/muezzinlaw8.RateGuard", spec := "rateGuard", named := ["muezzin/rate.legacyBits", "muezzin/rate.codings"], apart := false, laid := [("muezzin/rate.legacyBits", laid_muezzin_rate_legacyBits), ("muezzin/rate.codings", laid_muezzin_rate_codings)], narrowed := true }
def RateGuardUptoSaid : Prop := rateGuardUptoRow.holds Tryd.pinned (OpenSpec.upto rateGuardSpec)

/-- 'muezzinlaw8.RateSays', WHERE WHAT IT READS IS OF BULK AT MOST 1048576: true; the input reads as it did. -/
def rateSaysUptoRow : OpenClaim := { program := "ytddbboocommodaadoor", sum := "d28c58dbab1fd0ac9a6163395957d70359c7a3dae8f5c4a7403f9b8dc2ac0f8b", func := "muezzin/muezzinlaw8.RateSays", spec := "rateSays", named := ["muezzin/rate.legacyBits", "muezzin/rate.codings"], apart := false, laid := [("muezzin/rate.legacyBits", laid_muezzin_rate_legacyBits), ("muezzin/rate.codings", laid_muezzin_rate_codings)], narrowed := true }
def RateSaysUptoSaid : Prop := rateSaysUptoRow.holds Tryd.pinned (OpenSpec.upto rateSaysSpec)

/-- 'muezzinlaw8.RateGrows', WHERE WHAT IT READS IS OF BULK AT MOST 1048576: true; the input reads as it did. -/
def rateGrowsUptoRow : OpenClaim := { program := "ytddbboocommodaadoor", sum := "d28c58dbab1fd0ac9a6163395957d70359c7a3dae8f5c4a7403f9b8dc2ac0f8b", func := "muezzin/muezzinlaw8.RateGrows", spec := "rateGrows", named := ["muezzin/rate.legacyBits", "muezzin/rate.codings"], apart := false, laid := [("muezzin/rate.legacyBits", laid_muezzin_rate_legacyBits), ("muezzin/rate.codings", laid_muezzin_rate_codings)], narrowed := true }
def RateGrowsUptoSaid : Prop := rateGrowsUptoRow.holds Tryd.pinned (OpenSpec.upto rateGrowsSpec)

/-- 'muezzinlaw8.RateMany', WHERE WHAT IT READS IS OF BULK AT MOST 1048576: true; the input reads as it did. -/
def rateManyUptoRow : OpenClaim := { program := "ytddbboocommodaadoor", sum := "d28c58dbab1fd0ac9a6163395957d70359c7a3dae8f5c4a7403f9b8dc2ac0f8b", func := "muezzin/muezzinlaw8.RateMany", spec := "rateMany", named := ["muezzin/rate.legacyBits", "muezzin/rate.codings"], apart := false, laid := [("muezzin/rate.legacyBits", laid_muezzin_rate_legacyBits), ("muezzin/rate.codings", laid_muezzin_rate_codings)], narrowed := true }
def RateManyUptoSaid : Prop := rateManyUptoRow.holds Tryd.pinned (OpenSpec.upto rateManySpec)

end Rows
end Go.Proofs.YtddbboocommodaaDoor
