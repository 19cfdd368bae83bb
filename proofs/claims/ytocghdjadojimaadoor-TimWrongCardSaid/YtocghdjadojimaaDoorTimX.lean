/-
  MATHS OF A Tim's BYTES, there and back; the contract of muezzinlaw6.first.
-/
import Derived.Test.YtocghdjadojimaaDoorTimE
namespace Go.Proofs.YtocghdjadojimaaDoor
open Go.ChangeShapes Go.WideShapes Go.ChangeAt Go.RowKit
set_option linter.unusedVariables false
set_option linter.unusedSimpArgs false

theorem encT_at (q : Tm) : (encT q).getD 0 0 = 5 ∧ (encT q).getD 1 0 = 3 + (lenB q.l : Int) ∧ (encT q).getD 2 0 = q.c ∧ (encT q).getD 3 0 = q.p ∧ (encT q).getD 4 0 = fstB q.l + (if q.g = true then 1 else 0) ∧ (encT q).drop 5 = partB q.l := ⟨rfl, rfl, rfl, rfl, rfl, rfl⟩
theorem encT_part (q : Tm) (i : Nat) : (encT q).getD (i + 5) 0 = (partB q.l).getD i 0 := rfl
theorem decT_enc (q : Tm) (h : okT q = true) : decT (encT q) = q := by
  obtain ⟨p1, p2, c1, c2, hr⟩ := okT_fine h
  obtain ⟨f0, f1, f2, f3, f4, f5⟩ := fst_facts hr
  obtain ⟨g0, g1, g2, g3, g4, g5⟩ := encT_at q
  have hs := says_part hr
  unfold decT
  rw [g2, g3, g4, g5]
  obtain ⟨c, p, g, l⟩ := q
  dsimp only at *
  cases g
  · have e1 : (fstB l + (if false = true then 1 else 0)) % 2 = 0 := by simp; omega
    rw [e1]
    simp only [Bool.false_eq_true, if_false, Int.add_zero, Int.sub_zero]
    rw [hs]; rfl
  · have e1 : (fstB l + (if true = true then 1 else 0)) % 2 = 1 := by simp; omega
    rw [e1]
    simp only [if_true, Int.add_sub_cancel]
    rw [hs]; rfl
theorem frmT_enc (q : Tm) (h : okT q = true) : frmT (encT q) (lenB q.l + 5) = 0 := by
  obtain ⟨p1, p2, c1, c2, hr⟩ := okT_fine h
  obtain ⟨f0, f1, f2, f3, f4, f5⟩ := fst_facts hr
  obtain ⟨g0, g1, g2, g3, g4, g5⟩ := encT_at q
  exact frmT_is (by omega) g0 (by rw [g1]; omega) (by rw [g1]; omega)
theorem rdT_enc (q : Tm) (h : okT q = true) : rdT (encT q) (lenB q.l + 5) = 0 ∧ outT (encT q) (lenB q.l + 5) = q := by
  have hd := decT_enc q h
  have := rdT_good (frmT_enc q h) (by rw [hd]; exact h) (by rw [hd]; exact sameB_refl _)
  rw [hd] at this
  exact this
theorem hasT_enc (q : Tm) (h : okT q = true) (a : Int) : hasT (encT q) (lenB q.l + 5) a = decide (a ∈ q.l) := by
  unfold hasT
  rw [(rdT_enc q h).1, (rdT_enc q h).2]
  simp
theorem rdT_fine {xs : List Int} {n : Nat} (h : rdT xs n = 0) : okT (decT xs) = true ∧ encT (decT xs) = xs ∧ outT xs n = decT xs := by
  by_cases h1 : frmT xs n = 0
  · cases h2 : okT (decT xs) with
    | false => rw [(rdT_no h1 h2).1] at h; cases h
    | true =>
      cases h3 : sameB (encT (decT xs)) xs with
      | false => rw [(rdT_bad h1 h2 h3).1] at h; cases h
      | true => exact ⟨rfl, sameB_eq h3, (rdT_good h1 h2 h3).2⟩
  · rw [(rdT_beg h1).1] at h; exact absurd h h1
/-- nothing is no element. -/
theorem hasT_nil (a : Int) : hasT [] 0 a = false := by
  have : rdT [] 0 = 101 := (rdT_beg (xs := []) (n := 0) (by decide)).1.trans (by decide)
  unfold hasT
  rw [this]; rfl
/-- what is read of a Tim's bytes with one of them turned is not the Tim. -/
theorem not_same {L : List Int} {q : Tm} {n j : Nat} {v : Int} (hL : L = encT q) (hj : j < L.length) (hne : v ≠ L.getD j 0) (hr : rdT (L.set j v) n = 0) (hs : outT (L.set j v) n = q) : False := by
  obtain ⟨-, h2, h3⟩ := rdT_fine hr
  rw [← h3, hs, ← hL] at h2
  have e3 : (L.set j v).getD j 0 = v := by simp [List.getD, hj]
  rw [← h2] at e3
  exact hne e3.symm

theorem okT_one : okT ⟨0, 1, false, []⟩ = true := by decide
theorem len_one : lenB [] + 5 = 6 := by decide
set_option maxRecDepth 100000 in
set_option maxHeartbeats 8000000 in
theorem first_any (w : World) :
    Calls Tryd.prog 8 #[] w fun e w' => e = .returned (.bool true) ∧ Below w.heap.size w w' := by
  have HC := Lib.hid (bytes_yes ⟨0, 1, false, []⟩ none 0 0 w RowB.nil okT_one)
  dsimp only at HC
  rw [len_one] at HC
  go_enter Tryd.func8, Tryd.ntmps8
  go_wp2_with (fail)
  refine HC.out.mono ?_
  rintro e w1 ⟨g, cap, rfl, -, hB⟩
  have HB := Lib.hid hB
  clear hB HC
  go_wp2
  go_ret
  exact ⟨rfl, HB.out⟩
end Go.Proofs.YtocghdjadojimaaDoor
