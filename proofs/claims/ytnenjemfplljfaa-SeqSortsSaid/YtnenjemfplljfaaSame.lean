/-
  THE CONTRACT OF muezzinref.SameInts: are the two lists the same; it only reads.
-/
import Derived.Test.YtnenjemfplljfaaRow
import Derived.BigQuiet
import Derived.Deep.QuietTactic
import Derived.Outline
namespace Go.Proofs.Ytnenjemfplljfaa
open Go.ChangeShapes Go.WideShapes Go.ChangeAt Go.RowKit
set_option linter.unusedVariables false

theorem ret_b {a b : Bool} (h : b = a) : Ending.returned (.bool a) = .returned (.bool b) := by rw [h]
def sameB (a b : List Int) : Bool := decide (a = b)
theorem same_step {a b : List Int} {k : Nat} (h : a.take k = b.take k) (ha : k < a.length) (hb : k < b.length) (e : a.getD k 0 = b.getD k 0) : a.take (k + 1) = b.take (k + 1) := by
  rw [List.take_succ_eq_append_getElem ha, List.take_succ_eq_append_getElem hb, h]
  simp [List.getD, ha, hb] at e
  rw [e]
theorem same_not {a b : List Int} {k : Nat} (e : a.getD k 0 ≠ b.getD k 0) : sameB a b = false := by
  unfold sameB; simp; rintro rfl; exact e rfl
theorem same_all {a b : List Int} {k : Nat} (h : a.take k = b.take k) (ha : a.length ≤ k) (hb : b.length ≤ k) : sameB a b = true := by
  rw [List.take_of_length_le ha, List.take_of_length_le hb] at h
  unfold sameB; simp [h]
theorem sameB_len {a b : List Int} (h : a.length ≠ b.length) : sameB a b = false := by
  unfold sameB; simp; rintro rfl; exact h rfl
theorem IsRow.take_len {k w a len cap zs} (h : IsRow k w a len cap zs) : (zs.take len).length = len := by
  have := h.len_cap; simp; omega
theorem IsRow.took {k w a len cap zs} (h : IsRow k w a len cap zs) (hp : 0 < len) :
    ∃ b off, a = some ⟨b, off, none⟩ ∧ ∀ i, i < len → w.cell? ⟨b, off + i, none⟩ = some (.int k ((zs.take len).getD i 0)) := by
  obtain ⟨b, off, rfl, h1⟩ := h.els hp
  refine ⟨b, off, rfl, fun i hi => ?_⟩
  rw [(h1 i hi).1]
  simp [List.getD, hi]

set_option maxHeartbeats 1000000 in
theorem same_any (a b : Option Addr) (la ca lb cb : Nat) (za zb : List Int) (w : World) (ha : IsRow .i64 w a la ca za) (hb : IsRow .i64 w b lb cb zb) :
    Calls Try.prog 12 #[.slice a la ca, .slice b lb cb] w fun e w' => e = .returned (.bool (sameB (za.take la) (zb.take lb))) ∧ ∃ n, w' = w.drewN n := by
  have ba := ha.len_le
  have bb := hb.len_le
  unfold maxLen at ba bb
  have ta := ha.take_len
  have tb := hb.take_len
  have Ha := Lib.hid ha.took
  have Hb := Lib.hid hb.took
  clear ha hb
  generalize za.take la = A at *
  generalize zb.take lb = B at *
  by_cases hl : la = lb
  · subst hl
    have hne : ((la : Int) != (la : Int)) = false := by simp
    have Ta := Lib.hid ta
    have Tb := Lib.hid tb
    clear ta tb
    go_enter Try.func12, Try.ntmps12
    go_wp2
    go_loopw [5] (fun i wr => ∃ k n : Nat, k ≤ la ∧ i = .int .i64 k ∧ A.take k = B.take k ∧ wr = w.drewN n) (fun i _ => la - (intOf i).toNat)
    case atStart => exact ⟨0, 0, by omega, rfl, by simp, rfl⟩
    case round =>
      obtain ⟨k, n, hk, rfl, hAB, rfl⟩ := hrel
      have HAB := Lib.hid hAB
      clear hAB
      by_cases hlt : k < la
      · obtain ⟨ba', oa, rfl, hca⟩ := Ha.out (by omega)
        obtain ⟨bb', ob, rfl, hcb⟩ := Hb.out (by omega)
        have c1 := hca k hlt
        have c2 := hcb k hlt
        have hi : (k : Int) < (la : Int) := by omega
        clear hca hcb Ha Hb
        by_cases he : A.getD k 0 = B.getD k 0
        · have HS := Lib.hid (same_step HAB.out (by rw [Ta.out]; omega) (by rw [Tb.out]; omega) he)
          rw [he] at c1
          generalize B.getD k 0 = y at *
          clear he
          go_wp2
          go_quiet (fail)
          go_wp2
          go_roundw
          case rel => exact ⟨k + 1, _, by omega, by go_num, HS.out, rfl⟩
          case measure => simp [intOf]; omega
        · have HS := Lib.hid (same_not he)
          have hb' : (A.getD k 0 == B.getD k 0) = false := by simpa using he
          generalize B.getD k 0 = y at *
          generalize A.getD k 0 = x at *
          clear he
          go_wp2
          go_quiet (fail)
          go_wp2
          go_ret
          exact ⟨ret_b HS.out, _, rfl⟩
      · have HS := Lib.hid (same_all HAB.out (by rw [Ta.out]; omega) (by rw [Tb.out]; omega))
        go_wp2
        go_ret
        exact ⟨ret_b HS.out, _, rfl⟩
  · have hne : ((la : Int) != (lb : Int)) = true := by simp; omega
    have HS := Lib.hid (sameB_len (show A.length ≠ B.length by omega))
    go_enter Try.func12, Try.ntmps12
    go_wp2
    go_ret
    exact ⟨ret_b HS.out, 0, rfl⟩
end Go.Proofs.Ytnenjemfplljfaa
