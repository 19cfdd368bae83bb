/-
  CONTRACT of bytes.Equal.
-/
import Derived.Test.YtocghdjadojimaaDoorBase
import Derived.Laws.BytesArg
namespace Go.Proofs.YtocghdjadojimaaDoor
open Go.ChangeShapes Go.WideShapes Go.ChangeAt Go.RowKit
set_option linter.unusedVariables false
set_option linter.unusedSimpArgs false

set_option maxRecDepth 100000 in
set_option maxHeartbeats 8000000 in
theorem equal_any (a o n c b p m d : Nat) (xs ys : List Int) (w : World) (hx : RowB .u8 w (some ⟨a, o, none⟩) n xs) (hy : RowB .u8 w (some ⟨b, p, none⟩) m ys) (hn : 0 < n) (hm : 0 < m) :
    Calls Tryd.prog 25 #[.slice (some ⟨a, o, none⟩) n c, .slice (some ⟨b, p, none⟩) m d] w fun e w' => e = .returned (.bool (sameB xs ys)) ∧ w = w' := by
  have k1 := run_convert_bytes_arg (P := Tryd.prog) w 25 5 Tryd.underlying25 Tryd.underlying5 a o n c xs hx.len (fun i hi => hx.at_ i hi) 9 Tryd.underlying9
  have k2 := run_convert_bytes_arg (P := Tryd.prog) w 25 5 Tryd.underlying25 Tryd.underlying5 b p m d ys hy.len (fun i hi => hy.at_ i hi) 9 Tryd.underlying9
  have HE := Lib.hid (str_eq hx.mem8 hy.mem8)
  generalize sameB xs ys = r at *
  clear hx hy
  go_enter Tryd.func25, Tryd.ntmps25
  go_wp2
  go_ret
  exact ⟨ret_b HE.out.symm, rfl⟩
end Go.Proofs.YtocghdjadojimaaDoor
