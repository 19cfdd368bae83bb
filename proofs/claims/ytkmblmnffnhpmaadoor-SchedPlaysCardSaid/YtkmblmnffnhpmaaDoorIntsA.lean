/-
  CONTRACTS over lists of numbers: muezzinref.SameInts, muezzinref.Has.
-/
import Derived.Test.YtkmblmnffnhpmaaDoorBytesP
import Derived.Test.YtkmblmnffnhpmaaDoorRowN
namespace Go.Proofs.YtkmblmnffnhpmaaDoor
open Go.ChangeShapes Go.WideShapes Go.ChangeAt Go.RowKit
set_option linter.unusedVariables false
set_option linter.unusedSimpArgs false

theorem notmem_step {xs : List Int} {v : Int} {k : Nat} (h : v ∉ xs.take k) (hk : k < xs.length) (e : xs.getD k 0 ≠ v) : v ∉ xs.take (k + 1) := by
  rw [take_snoc hk]
  simp only [List.mem_append, List.mem_singleton, not_or]
  exact ⟨h, fun hh => e hh.symm⟩
set_option maxRecDepth 100000 in
set_option maxHeartbeats 4000000 in
theorem sameInts_any (a b : Option Addr) (la ca lb cb : Nat) (A B : List Int) (w : World) (ha : RowB .i64 w a la A) (hb : RowB .i64 w b lb B) :
    Calls Tryd.prog 23 #[.slice a la ca, .slice b lb cb] w fun e w' => e = .returned (.bool (sameB A B)) ∧ ∃ n, w' = w.drewN n := by
  have ba := ha.le
  have bb := hb.le
  unfold maxLen at ba bb
  have ta := ha.len
  have tb := hb.len
  have Ha := Lib.hid ha.took
  have Hb := Lib.hid hb.took
  clear ha hb
  by_cases hl : la = lb
  · subst hl
    have hne : ((la : Int) != (la : Int)) = false := by simp
    have Ta := Lib.hid ta
    have Tb := Lib.hid tb
    clear ta tb
    go_enter Tryd.func23, Tryd.ntmps23
    go_wp2
    go_loopw [5] (fun i wr => ∃ k n : Nat, k ≤ la ∧ i = .int .i64 k ∧ A.take k = B.take k ∧ wr = w.drewN n) (fun i _ => la - (intOf i).toNat)
    case atStart => exact ⟨0, 0, by omega, rfl, by simp, rfl⟩
    case round =>
      obtain ⟨k, n, hk, rfl, hAB, rfl⟩ := hrel
      have HAB := Lib.hid hAB
      clear hAB
      by_cases hlt : k < la
      · obtain ⟨ba', oa, rfl, hca⟩ := Ha.out (by omega)
        obtain ⟨bb', ob, rfl, hcb⟩ := Hb.out (by omega)
        have c1 := hca k hlt
        have c2 := hcb k hlt
        have hi : (k : Int) < (la : Int) := by omega
        clear hca hcb Ha Hb
        by_cases he : A.getD k 0 = B.getD k 0
        · have HS := Lib.hid (same_step HAB.out (by rw [Ta.out]; omega) (by rw [Tb.out]; omega) he)
          rw [he] at c1
          generalize B.getD k 0 = y at *
          clear he
          go_wp2
          go_quiet (fail)
          go_wp2
          go_roundw
          case rel => exact ⟨k + 1, _, by omega, by go_num, HS.out, rfl⟩
          case measure => simp [intOf]; omega
        · have HS := Lib.hid (same_not he)
          have hb' : (A.getD k 0 == B.getD k 0) = false := by simpa using he
          generalize B.getD k 0 = y at *
          generalize A.getD k 0 = x at *
          clear he
          go_wp2
          go_quiet (fail)
          go_wp2
          go_ret
          exact ⟨ret_b HS.out, _, rfl⟩
      · have HS := Lib.hid (same_all HAB.out (by rw [Ta.out]; omega) (by rw [Tb.out]; omega))
        go_wp2
        go_ret
        exact ⟨ret_b HS.out, _, rfl⟩
  · have hne : ((la : Int) != (lb : Int)) = true := by simp; omega
    have HS := Lib.hid (sameB_len (show A.length ≠ B.length by omega))
    go_enter Tryd.func23, Tryd.ntmps23
    go_wp2
    go_ret
    exact ⟨ret_b HS.out, 0, rfl⟩

set_option maxRecDepth 100000 in
set_option maxHeartbeats 8000000 in
theorem refHas_any (A : Option Addr) (n c : Nat) (xs : List Int) (v : Int) (w : World) (h : RowB .i64 w A n xs) :
    Calls Tryd.prog 28 #[.slice A n c, .int .i64 v] w fun e w' => e = .returned (.bool (decide (v ∈ xs))) ∧ w = w' := by
  have hl := h.len
  have hle := h.le
  unfold maxLen at hle
  have HC := Lib.hid (fun i hi => h.el i hi)
  have HL := Lib.hid hl
  clear h hl
  go_enter Tryd.func28, Tryd.ntmps28
  go_wp2
  go_loop [5] (fun i => ∃ k : Nat, k ≤ n ∧ i = .int .i64 k ∧ v ∉ xs.take k) (fun i => n - (intOf i).toNat)
  case atStart => exact ⟨0, by omega, rfl, by simp⟩
  case round =>
    obtain ⟨k, hk, rfl, hnot⟩ := hrel
    by_cases hlt : k < n
    · obtain ⟨b, off, rfl, hc⟩ := HC.out k hlt
      have hi : (k : Int) < (n : Int) := by omega
      by_cases he : xs.getD k 0 = v
      · have HS := Lib.hid (show decide (v ∈ xs) = true from decide_eq_true (by rw [← he]; exact mem_getD (by rw [HL.out]; exact hlt)))
        rw [he] at hc
        clear he hnot
        go_wp2
        go_ret
        exact ⟨ret_b HS.out, rfl⟩
      · have HS := Lib.hid (notmem_step hnot (by rw [HL.out]; exact hlt) he)
        have hb' : (xs.getD k 0 == v) = false := by simpa using he
        generalize xs.getD k 0 = x at *
        clear he hnot
        go_wp2
        go_round
        case rel => exact ⟨k + 1, by omega, by go_num, HS.out⟩
        case measure => simp [intOf]; omega
    · have HS := Lib.hid (show decide (v ∈ xs) = false by
        rw [List.take_of_length_le (by rw [HL.out]; omega)] at hnot
        exact decide_eq_false hnot)
      clear hnot
      go_wp2
      go_ret
      exact ⟨ret_b HS.out, rfl⟩
end Go.Proofs.YtkmblmnffnhpmaaDoor
