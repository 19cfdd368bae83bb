/-
  CONTRACT of muezzinlaw3.first; qos.Bytes and qos.Read in short.
-/
import Derived.Test.YtogcpommidfmnaaDoorQosM
import Derived.Test.YtogcpommidfmnaaDoorErr
namespace Go.Proofs.YtogcpommidfmnaaDoor
open Go.ChangeShapes Go.WideShapes Go.ChangeAt Go.RowKit
set_option linter.unusedVariables false
set_option linter.unusedSimpArgs false

theorem Sent.at4 {w : World} {E : Nat → Addr} {S : List Nat} (h : Sent w E S) (hs : ∀ c ∈ S4, c ∈ S) (c : Nat) (hc : c ∈ S4) : w.cell? ⟨gOf c, 0, none⟩ = some (errP (E c)) := h.at_ c (hs c hc)
theorem Sent.four {w : World} {E : Nat → Addr} {S : List Nat} (h : Sent w E S) (hs : ∀ c ∈ S4, c ∈ S) : Sent w E S4 := h.sub hs

set_option maxRecDepth 100000 in
set_option maxHeartbeats 4000000 in
theorem first_any (w : World) :
    Calls Tryd.prog 9 #[] w fun e w' => e = .returned (.bool true) ∧ Below w.heap.size w w' := by
  have HY := Lib.hid (bytes_yes q0 [] w rfl RowB.nil (fun _ => rfl))
  dsimp only [q0] at HY
  go_enter Tryd.func9, Tryd.ntmps9
  go_wp2_with (fail)
  refine HY.out.mono ?_
  rintro e w1 ⟨g, cap, rfl, hO, hB⟩
  have HB := Lib.hid hB
  clear hO hB
  go_wp2_with (go_at_call 18; refine (len_any 0 _ (by omega) (by omega)).mono ?_; rintro e w' ⟨rfl, rfl⟩)
  go_ret
  exact ⟨rfl, HB.out⟩

/-- what Read answers, by the bytes: 0: a frame. -/
def rdB (xs : List Int) (n : Nat) : Nat := if n < 26 then 101 else if xs.getD 0 0 ≠ 136 then 105 else if hfB xs = false then 102 else if 1526 < n then 103 else 0
theorem rd_fine {xs : List Int} {n : Nat} (h : rdB xs n = 0) : 26 ≤ n ∧ n ≤ 1526 ∧ xs.getD 0 0 = 136 ∧ hfB xs = true := by
  unfold rdB at h
  by_cases h1 : n < 26
  · rw [if_pos h1] at h; cases h
  · rw [if_neg h1] at h
    by_cases h2 : xs.getD 0 0 ≠ 136
    · rw [if_pos h2] at h; cases h
    · rw [if_neg h2] at h
      by_cases h3 : hfB xs = false
      · rw [if_pos h3] at h; cases h
      · rw [if_neg h3] at h
        by_cases h4 : 1526 < n
        · rw [if_pos h4] at h; cases h
        · exact ⟨by omega, by omega, by simpa using h2, by simpa using h3⟩
theorem rd_in (xs : List Int) (n : Nat) : rdB xs n = 0 ∨ rdB xs n ∈ S4 := by
  unfold rdB
  split
  · exact .inr (by decide)
  split
  · exact .inr (by decide)
  split
  · exact .inr (by decide)
  split
  · exact .inr (by decide)
  · exact .inl rfl
/-- Read, where it answers an error: any of the four. -/
theorem read_bad (A : Option Addr) (n c : Nat) (xs : List Int) (E : Nat → Addr) (w : World) (h : RowB .u8 w A n xs) (hS : Sent w E S4) (hr : rdB xs n ≠ 0) :
    Calls Tryd.prog 12 #[.slice A n c] w fun e w' => e = .returned (.tuple #[q0.val, errP (E (rdB xs n))]) ∧ Below w.heap.size w w' := by
  have hr' := hr
  unfold rdB at hr ⊢
  by_cases h1 : n < 26
  · rw [if_pos h1]
    exact read_end A n c xs E w h1 (hS.at_ 101 (by decide))
  · rw [if_neg h1] at hr ⊢
    by_cases h2 : xs.getD 0 0 ≠ 136
    · rw [if_pos h2]
      exact read_kind A n c xs E w h (by omega) h2 (hS.at_ 105 (by decide))
    · rw [if_neg h2] at hr ⊢
      by_cases h3 : hfB xs = false
      · rw [if_pos h3]
        exact read_shape A n c xs E w h (by omega) (by simpa using h2) h3 (hS.at_ 102 (by decide))
      · rw [if_neg h3] at hr ⊢
        by_cases h4 : 1526 < n
        · rw [if_pos h4]
          exact read_range A n c xs E w h h4 (by simpa using h2) (by simpa using h3) (hS.at_ 103 (by decide))
        · rw [if_neg h4] at hr
          exact absurd rfl hr
theorem read_good (A : Option Addr) (n c : Nat) (xs : List Int) (w : World) (h : RowB .u8 w A n xs) (hnc : n ≤ c) (hr : rdB xs n = 0) :
    Calls Tryd.prog 12 #[.slice A n c] w fun e w' => ∃ g cap, e = .returned (.tuple #[(decQ xs (some ⟨g, 0, none⟩) (n - 26) cap).val, .nilIface]) ∧ OwnB w' w.heap.size 5 .u8 g (n - 26) cap (xs.drop 26) ∧ Below w.heap.size w w' := by
  obtain ⟨h1, h2, h3, h4⟩ := rd_fine hr
  exact read_ok A n c xs w h h1 h2 hnc h3 h4

theorem is_nil (d : Int) (w : World) : Calls Tryd.prog 13 #[.nilIface, .int .i64 d] w fun e w' => e = .returned (.bool ((0 : Int) == d)) ∧ Below w.heap.size w w' :=
  is_of 0 d .nilIface w (Lib.hid fun w' hb => fault_nil w')
theorem is_err (E : Nat → Addr) (c : Nat) (d : Int) (w : World) (hS : Sent w E S14) (hc : c ∈ S14) :
    Calls Tryd.prog 13 #[errP (E c), .int .i64 d] w fun e w' => e = .returned (.bool ((c : Int) == d)) ∧ Below w.heap.size w w' :=
  is_of c d _ w (Lib.hid fun w' hb => fault_err E c w' (hS.below hb) hc)
theorem four14 : ∀ c ∈ S4, c ∈ S14 := by decide
theorem rd_14 {xs : List Int} {n : Nat} (h : rdB xs n ≠ 0) : rdB xs n ∈ S14 := four14 _ ((rd_in xs n).resolve_left h)
/-- zeros that a make has made. -/
theorem zeros8 (n : Nat) : (madeCells (Value.int .u8 0).cells (n * 1)).toList = (List.replicate n (0 : Int)).map (Value.int .u8) := by
  apply List.ext_getElem
  · simp [madeCells, Value.cells]
  · intro i h1 h2
    simp [madeCells, Value.cells, Nat.mod_one]
end Go.Proofs.YtogcpommidfmnaaDoor
