/-
  DERIVED. GIVEN WITH THE SEED: THE PROGRAM's TIES (one call each: nine closed facts by the kernel) AND EACH ROW's TIE, after the 31st guide's Derived/Test/Toyas{Tie, Card}.lean. No idea stands in it: it is a product of the set-up. Laid BY PROGRAM, IN A SANDBOX (cutbox-door.mjs). By AI agents, Wed Nov 11 2026. No macro, syntax, notation, axiom, sorry.
-/
import Derived.Test.YtlbfioknkagboaaDoorRows
import Derived.LaidByTextLater
import Derived.SevenTiedAt
import Derived.LaidSub
import Derived.LaidOnce
namespace Go.Proofs.YtlbfioknkagboaaDoor
open Go
set_option maxRecDepth 100000
theorem seatTie1 : Tryd.prog.laidByTextLater [("math/bits.deBruijn64tab", Rows.laid_math_bits_deBruijn64tab), ("muezzin/api.ErrEnd", Rows.laid_muezzin_api_ErrEnd), ("muezzin/api.ErrShape", Rows.laid_muezzin_api_ErrShape), ("muezzin/api.ErrRange", Rows.laid_muezzin_api_ErrRange), ("muezzin/api.ErrMany", Rows.laid_muezzin_api_ErrMany), ("muezzin/api.ErrKind", Rows.laid_muezzin_api_ErrKind), ("muezzin/api.ErrSum", Rows.laid_muezzin_api_ErrSum), ("muezzin/api.ErrNone", Rows.laid_muezzin_api_ErrNone), ("muezzin/api.ErrTwice", Rows.laid_muezzin_api_ErrTwice), ("muezzin/api.ErrFull", Rows.laid_muezzin_api_ErrFull), ("muezzin/api.ErrState", Rows.laid_muezzin_api_ErrState), ("muezzin/api.ErrSeq", Rows.laid_muezzin_api_ErrSeq), ("muezzin/api.ErrLong", Rows.laid_muezzin_api_ErrLong), ("muezzin/api.ErrWord", Rows.laid_muezzin_api_ErrWord), ("muezzin/api.ErrNumber", Rows.laid_muezzin_api_ErrNumber)] [.data, .sentinel, .sentinel, .sentinel, .sentinel, .sentinel, .sentinel, .sentinel, .sentinel, .sentinel, .sentinel, .sentinel, .sentinel, .sentinel, .sentinel] true :=
  Program.laidByTextLater_by_one 280 8 65 (by kernel_rfl) (by kernel_rfl) (by kernel_rfl) (by kernel_rfl) (by kernel_rfl) (by kernel_rfl) (fun _ _ => by kernel_rfl)
theorem noOwnUnsafe : Tryd.pinned.checked.prog.headLifts.contains "ownunsafe" = false := by kernel_rfl
theorem tie : Tryd.prog.laidByTextLater [("math/bits.deBruijn64tab", Rows.laid_math_bits_deBruijn64tab), ("muezzin/api.ErrRange", Rows.laid_muezzin_api_ErrRange), ("muezzin/api.ErrNone", Rows.laid_muezzin_api_ErrNone), ("muezzin/api.ErrFull", Rows.laid_muezzin_api_ErrFull), ("muezzin/api.ErrState", Rows.laid_muezzin_api_ErrState), ("muezzin/api.ErrSeq", Rows.laid_muezzin_api_ErrSeq)] [.data, .sentinel, .sentinel, .sentinel, .sentinel, .sentinel] true :=
  Program.laidByTextLater.sub seatTie1 ["math/bits.deBruijn64tab", "muezzin/api.ErrRange", "muezzin/api.ErrNone", "muezzin/api.ErrFull", "muezzin/api.ErrState", "muezzin/api.ErrSeq"] (by kernel_rfl) (by kernel_rfl)
theorem baOnce_row_tie : Rows.baOnceRow.laidByTextAt .later Tryd.pinned [.data, .sentinel, .sentinel, .sentinel, .sentinel, .sentinel] true :=
  OpenClaim.laidByTextAt_later rfl rfl tie noOwnUnsafe
theorem baHears_row_tie : Rows.baHearsRow.laidByTextAt .later Tryd.pinned [.data, .sentinel, .sentinel, .sentinel, .sentinel, .sentinel] true :=
  OpenClaim.laidByTextAt_later rfl rfl tie noOwnUnsafe
theorem tie2 : Tryd.prog.laidByTextLater [("math/bits.deBruijn64tab", Rows.laid_math_bits_deBruijn64tab), ("muezzin/api.ErrEnd", Rows.laid_muezzin_api_ErrEnd), ("muezzin/api.ErrShape", Rows.laid_muezzin_api_ErrShape), ("muezzin/api.ErrRange", Rows.laid_muezzin_api_ErrRange), ("muezzin/api.ErrMany", Rows.laid_muezzin_api_ErrMany), ("muezzin/api.ErrKind", Rows.laid_muezzin_api_ErrKind), ("muezzin/api.ErrSum", Rows.laid_muezzin_api_ErrSum), ("muezzin/api.ErrNone", Rows.laid_muezzin_api_ErrNone), ("muezzin/api.ErrTwice", Rows.laid_muezzin_api_ErrTwice), ("muezzin/api.ErrFull", Rows.laid_muezzin_api_ErrFull), ("muezzin/api.ErrState", Rows.laid_muezzin_api_ErrState), ("muezzin/api.ErrSeq", Rows.laid_muezzin_api_ErrSeq), ("muezzin/api.ErrLong", Rows.laid_muezzin_api_ErrLong), ("muezzin/api.ErrWord", Rows.laid_muezzin_api_ErrWord), ("muezzin/api.ErrNumber", Rows.laid_muezzin_api_ErrNumber)] [.data, .sentinel, .sentinel, .sentinel, .sentinel, .sentinel, .sentinel, .sentinel, .sentinel, .sentinel, .sentinel, .sentinel, .sentinel, .sentinel, .sentinel] true :=
  Program.laidByTextLater.sub seatTie1 ["math/bits.deBruijn64tab", "muezzin/api.ErrEnd", "muezzin/api.ErrShape", "muezzin/api.ErrRange", "muezzin/api.ErrMany", "muezzin/api.ErrKind", "muezzin/api.ErrSum", "muezzin/api.ErrNone", "muezzin/api.ErrTwice", "muezzin/api.ErrFull", "muezzin/api.ErrState", "muezzin/api.ErrSeq", "muezzin/api.ErrLong", "muezzin/api.ErrWord", "muezzin/api.ErrNumber"] (by kernel_rfl) (by kernel_rfl)
theorem baAsks_row_tie : Rows.baAsksRow.laidByTextAt .later Tryd.pinned [.data, .sentinel, .sentinel, .sentinel, .sentinel, .sentinel, .sentinel, .sentinel, .sentinel, .sentinel, .sentinel, .sentinel, .sentinel, .sentinel, .sentinel] true :=
  OpenClaim.laidByTextAt_later rfl rfl tie2 noOwnUnsafe
theorem baStates_row_tie : Rows.baStatesRow.laidByTextAt .later Tryd.pinned [.data, .sentinel, .sentinel, .sentinel, .sentinel, .sentinel, .sentinel, .sentinel, .sentinel, .sentinel, .sentinel, .sentinel, .sentinel, .sentinel, .sentinel] true :=
  OpenClaim.laidByTextAt_later rfl rfl tie2 noOwnUnsafe
theorem baSeqs_row_tie : Rows.baSeqsRow.laidByTextAt .later Tryd.pinned [.data, .sentinel, .sentinel, .sentinel, .sentinel, .sentinel, .sentinel, .sentinel, .sentinel, .sentinel, .sentinel, .sentinel, .sentinel, .sentinel, .sentinel] true :=
  OpenClaim.laidByTextAt_later rfl rfl tie2 noOwnUnsafe
theorem tie3 : Tryd.prog.laidByTextLater [("math/bits.deBruijn64tab", Rows.laid_math_bits_deBruijn64tab), ("muezzin/api.ErrRange", Rows.laid_muezzin_api_ErrRange), ("muezzin/api.ErrNone", Rows.laid_muezzin_api_ErrNone), ("muezzin/api.ErrFull", Rows.laid_muezzin_api_ErrFull), ("muezzin/api.ErrState", Rows.laid_muezzin_api_ErrState)] [.data, .sentinel, .sentinel, .sentinel, .sentinel] true :=
  Program.laidByTextLater.sub seatTie1 ["math/bits.deBruijn64tab", "muezzin/api.ErrRange", "muezzin/api.ErrNone", "muezzin/api.ErrFull", "muezzin/api.ErrState"] (by kernel_rfl) (by kernel_rfl)
theorem baLives_row_tie : Rows.baLivesRow.laidByTextAt .later Tryd.pinned [.data, .sentinel, .sentinel, .sentinel, .sentinel] true :=
  OpenClaim.laidByTextAt_later rfl rfl tie3 noOwnUnsafe
theorem baOnceUpto_row_tie : Rows.baOnceUptoRow.laidByTextAt .later Tryd.pinned [.data, .sentinel, .sentinel, .sentinel, .sentinel, .sentinel] true :=
  OpenClaim.laidByTextAt_later rfl rfl tie noOwnUnsafe
theorem baHearsUpto_row_tie : Rows.baHearsUptoRow.laidByTextAt .later Tryd.pinned [.data, .sentinel, .sentinel, .sentinel, .sentinel, .sentinel] true :=
  OpenClaim.laidByTextAt_later rfl rfl tie noOwnUnsafe
theorem baAsksUpto_row_tie : Rows.baAsksUptoRow.laidByTextAt .later Tryd.pinned [.data, .sentinel, .sentinel, .sentinel, .sentinel, .sentinel, .sentinel, .sentinel, .sentinel, .sentinel, .sentinel, .sentinel, .sentinel, .sentinel, .sentinel] true :=
  OpenClaim.laidByTextAt_later rfl rfl tie2 noOwnUnsafe
theorem baLivesUpto_row_tie : Rows.baLivesUptoRow.laidByTextAt .later Tryd.pinned [.data, .sentinel, .sentinel, .sentinel, .sentinel] true :=
  OpenClaim.laidByTextAt_later rfl rfl tie3 noOwnUnsafe
theorem baStatesUpto_row_tie : Rows.baStatesUptoRow.laidByTextAt .later Tryd.pinned [.data, .sentinel, .sentinel, .sentinel, .sentinel, .sentinel, .sentinel, .sentinel, .sentinel, .sentinel, .sentinel, .sentinel, .sentinel, .sentinel, .sentinel] true :=
  OpenClaim.laidByTextAt_later rfl rfl tie2 noOwnUnsafe
theorem baSeqsUpto_row_tie : Rows.baSeqsUptoRow.laidByTextAt .later Tryd.pinned [.data, .sentinel, .sentinel, .sentinel, .sentinel, .sentinel, .sentinel, .sentinel, .sentinel, .sentinel, .sentinel, .sentinel, .sentinel, .sentinel, .sentinel] true :=
  OpenClaim.laidByTextAt_later rfl rfl tie2 noOwnUnsafe
end Go.Proofs.YtlbfioknkagboaaDoor
