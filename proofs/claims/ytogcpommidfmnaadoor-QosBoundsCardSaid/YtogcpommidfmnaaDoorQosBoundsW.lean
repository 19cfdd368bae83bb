/-
  The walk of muezzin/muezzinlaw3.QosBounds: the Go text returns true.
-/
import Derived.Test.YtogcpommidfmnaaDoorQosF
import Derived.Test.YtogcpommidfmnaaDoorOpen
import Derived.Test.YtogcpommidfmnaaDoorErr
import Derived.WalkKit
import Derived.ProofKit
import Derived.Below
namespace Go.Proofs.YtogcpommidfmnaaDoor.qosBounds
open Go.ChangeShapes Go.WideShapes Go.ChangeAt Go.RowKit Go.Joins
set_option linter.unusedVariables false
set_option linter.unusedSimpArgs false

/-! ### THE WALK -/
set_option maxRecDepth 100000 in
set_option maxHeartbeats 8000000 in
theorem walk (n0 : Int) (n1 : Int) (n2 : Int) (w : World) (E : Nat → Addr) (hS : Sent w E [101, 102, 103, 104, 105, 106, 107, 108, 109, 110, 111, 112, 113, 114]) (w0 : (Lit.int .i64 n0).wf = true) (w1 : (Lit.int .i64 n1).wf = true) (w2 : (Lit.int .i64 n2).wf = true) :
    Calls Tryd.prog 7 #[.int .i64 n0, .int .i64 n1, .int .i64 n2] w fun e w' => e = .returned (.bool true) ∧ Below w.heap.size w w' := by
  have W0 := Lib.hid w0
  have W1 := Lib.hid w1
  have W2 := Lib.hid w2
  have HS := Lib.hid hS
  clear w0 w1 w2 hS
  have s0 := nmod_lo n0 5 (by omega)
  have s1 := nmod_hi n0 5 (by omega)
  have t0 := nmod_lo n1 4 (by omega)
  have t1 := nmod_hi n1 4 (by omega)
  have b0 := nmod_lo n2 4 (by omega)
  have b1 := nmod_hi n2 4 (by omega)
  obtain ⟨i0, hi0, hz0, hz1, hz2⟩ := info_parts byte_info
  go_enter Tryd.func7, Tryd.ntmps7
  go_wp2_with (first
    | (go_at_call 9; refine (first_any _).mono ?_; rintro e w1 ⟨rfl, hB⟩; have HB1 := Lib.hid hB; clear hB)
    | (go_at_call 19; refine (number_any _ _ _ (by first | exact W0.out | exact W1.out | exact W2.out) (by omega) (by omega)).mono ?_; rintro e w' ⟨rfl, rfl⟩))
  have HS1 := Lib.hid (HS.out.below HB1.out)
  generalize nmod n0 5 = s at *
  generalize nmod n1 4 = t at *
  generalize nmod n2 4 = b at *
  obtain ⟨bn, rfl⟩ : ∃ bn : Nat, b = (bn : Int) := ⟨b.toNat, by omega⟩
  by_cases hs : s + 4093 ≤ 4095
  · have hsd : decide (s + 4093 ≤ 4095) = true := by simp; omega
    refine (bytes_yes (⟨⟨0, 0, 0, 0, 0, 0⟩, ⟨0, 0, 0, 0, 0, 0⟩, ⟨0, 0, 0, 0, 0, 0⟩, 0, (s + 4093), false, false, false, none, 0, 0⟩ : Qf) [] w1 ((Qf.ok_iff _).2 (by simp; omega)) RowB.nil (fun _ => rfl)).mono ?_
    rintro e w2 ⟨g2, c2, rfl, _, hB⟩
    have HB2 := Lib.hid (HB1.out.trans (hB.mono HB1.out.size))
    have HS2 := Lib.hid (HS.out.below HB2.out)
    clear hB
    go_wp2_with (fail)
    by_cases ht : t + 5 ≤ 7
    · have htd : decide (t + 5 ≤ 7) = true := by simp; omega
      refine (bytes_yes (⟨⟨0, 0, 0, 0, 0, 0⟩, ⟨0, 0, 0, 0, 0, 0⟩, ⟨0, 0, 0, 0, 0, 0⟩, (t + 5), 0, false, false, false, none, 0, 0⟩ : Qf) [] w2 ((Qf.ok_iff _).2 (by simp; omega)) RowB.nil (fun _ => rfl)).mono ?_
      rintro e w3 ⟨g3, c3, rfl, _, hB⟩
      have HB3 := Lib.hid (HB2.out.trans (hB.mono HB2.out.size))
      have HS3 := Lib.hid (HS.out.below HB3.out)
      clear hB
      go_wp2_with (at_make; refine wpList_make_full _ rfl _ _ 24 rfl w3.heap.size 5 i0 (.int .u8 0) 1 Tryd.underlying24 hi0 hz0 hz1 _ _ _ _ (bn + 1498) rfl rfl (by omega) (by omega) (by rw [hz2]; omega) (by unfold maxLen; omega) (Nat.le_refl _) ?_; intro w4 hown1 hgrow1)
      rw [zeros8] at hown1
      have HO4 := Lib.hid (show OwnB w4 w3.heap.size 5 .u8 w3.heap.size (bn + 1498) (bn + 1498) (List.replicate (bn + 1498) 0) from hown1)
      have HB4 := Lib.hid (HB3.out.trans (((Below.refl w3.heap.size w3).grown hgrow1 (Nat.le_refl _) (by simp)).mono HB3.out.size))
      have HS4 := Lib.hid (HS.out.below HB4.out)
      clear hown1 hgrow1
      by_cases hb : bn + 1498 ≤ 1500
      · have hbd : decide ((bn : Int) + 1498 ≤ 1500) = true := by simp; omega
        refine (bytes_yes (⟨⟨0, 0, 0, 0, 0, 0⟩, ⟨0, 0, 0, 0, 0, 0⟩, ⟨0, 0, 0, 0, 0, 0⟩, 0, 0, false, false, false, (some ⟨w3.heap.size, 0, none⟩), (bn + 1498), (bn + 1498)⟩ : Qf) (List.replicate (bn + 1498) 0) w4 ((Qf.ok_iff _).2 (by simp; omega)) (HO4.out.row fun i hi => by rw [show (List.replicate (bn + 1498) (0 : Int)).getD i 0 = 0 by simp [List.getD, hi]]; decide) (fun h => by cases h)).mono ?_
        rintro e w5 ⟨g5, c5, rfl, _, hB⟩
        have HB5 := Lib.hid (HB4.out.trans (hB.mono HB4.out.size))
        have HS5 := Lib.hid (HS.out.below HB5.out)
        clear hB
        go_wp2_with (fail)
        refine (bytes_no (⟨⟨0, 0, 0, 0, 0, 0⟩, ⟨0, 0, 0, 0, 0, 0⟩, ⟨0, 0, 0, 0, 0, 0⟩, 0, (-1), false, false, false, none, 0, 0⟩ : Qf) E w5 (by decide) (HS5.out.at_ 103 (by decide))).mono ?_
        rintro e w6 ⟨rfl, hB⟩
        have HB6 := Lib.hid (HB5.out.trans (hB.mono HB5.out.size))
        have HS6 := Lib.hid (HS.out.below HB6.out)
        clear hB
        go_wp2_with (fail)
        refine (bytes_no (⟨⟨0, 0, 0, 0, 0, 0⟩, ⟨0, 0, 0, 0, 0, 0⟩, ⟨0, 0, 0, 0, 0, 0⟩, (-1), 0, false, false, false, none, 0, 0⟩ : Qf) E w6 (by decide) (HS6.out.at_ 103 (by decide))).mono ?_
        rintro e w7 ⟨rfl, hB⟩
        have HB7 := Lib.hid (HB6.out.trans (hB.mono HB6.out.size))
        have HS7 := Lib.hid (HS.out.below HB7.out)
        have HI := Lib.hid (is_err E 103 103 w7 HS7.out (by decide))
        clear hB
        go_wp2_with (go_at_call 13; refine HI.out.mono ?_; rintro e w8 ⟨rfl, hB⟩; have HB8 := Lib.hid (HB7.out.trans (hB.mono HB7.out.size)); have HS8 := Lib.hid (HS.out.below HB8.out); clear hB)
        refine (is_err E 103 103 w8 HS8.out (by decide)).mono ?_
        rintro e w9 ⟨rfl, hB⟩
        have HB9 := Lib.hid (HB8.out.trans (hB.mono HB8.out.size))
        clear hB
        go_wp2
        go_ret
        exact ⟨rfl, HB9.out⟩
      · have hbd : decide ((bn : Int) + 1498 ≤ 1500) = false := by simp; omega
        refine (bytes_no (⟨⟨0, 0, 0, 0, 0, 0⟩, ⟨0, 0, 0, 0, 0, 0⟩, ⟨0, 0, 0, 0, 0, 0⟩, 0, 0, false, false, false, (some ⟨w3.heap.size, 0, none⟩), (bn + 1498), (bn + 1498)⟩ : Qf) E w4 (by rw [Bool.eq_false_iff]; intro h; have := (Qf.ok_iff _).1 h; simp at this; omega) (HS4.out.at_ 103 (by decide))).mono ?_
        rintro e w5 ⟨rfl, hB⟩
        have HB5 := Lib.hid (HB4.out.trans (hB.mono HB4.out.size))
        have HS5 := Lib.hid (HS.out.below HB5.out)
        clear hB
        go_wp2_with (fail)
        refine (bytes_no (⟨⟨0, 0, 0, 0, 0, 0⟩, ⟨0, 0, 0, 0, 0, 0⟩, ⟨0, 0, 0, 0, 0, 0⟩, 0, (-1), false, false, false, none, 0, 0⟩ : Qf) E w5 (by decide) (HS5.out.at_ 103 (by decide))).mono ?_
        rintro e w6 ⟨rfl, hB⟩
        have HB6 := Lib.hid (HB5.out.trans (hB.mono HB5.out.size))
        have HS6 := Lib.hid (HS.out.below HB6.out)
        clear hB
        go_wp2_with (fail)
        refine (bytes_no (⟨⟨0, 0, 0, 0, 0, 0⟩, ⟨0, 0, 0, 0, 0, 0⟩, ⟨0, 0, 0, 0, 0, 0⟩, (-1), 0, false, false, false, none, 0, 0⟩ : Qf) E w6 (by decide) (HS6.out.at_ 103 (by decide))).mono ?_
        rintro e w7 ⟨rfl, hB⟩
        have HB7 := Lib.hid (HB6.out.trans (hB.mono HB6.out.size))
        have HS7 := Lib.hid (HS.out.below HB7.out)
        have HI := Lib.hid (is_err E 103 103 w7 HS7.out (by decide))
        clear hB
        go_wp2_with (go_at_call 13; refine HI.out.mono ?_; rintro e w8 ⟨rfl, hB⟩; have HB8 := Lib.hid (HB7.out.trans (hB.mono HB7.out.size)); have HS8 := Lib.hid (HS.out.below HB8.out); clear hB)
        refine (is_err E 103 103 w8 HS8.out (by decide)).mono ?_
        rintro e w9 ⟨rfl, hB⟩
        have HB9 := Lib.hid (HB8.out.trans (hB.mono HB8.out.size))
        clear hB
        go_wp2
        go_ret
        exact ⟨rfl, HB9.out⟩
    · have htd : decide (t + 5 ≤ 7) = false := by simp; omega
      refine (bytes_no (⟨⟨0, 0, 0, 0, 0, 0⟩, ⟨0, 0, 0, 0, 0, 0⟩, ⟨0, 0, 0, 0, 0, 0⟩, (t + 5), 0, false, false, false, none, 0, 0⟩ : Qf) E w2 (by rw [Bool.eq_false_iff]; intro h; have := (Qf.ok_iff _).1 h; simp at this; omega) (HS2.out.at_ 103 (by decide))).mono ?_
      rintro e w3 ⟨rfl, hB⟩
      have HB3 := Lib.hid (HB2.out.trans (hB.mono HB2.out.size))
      have HS3 := Lib.hid (HS.out.below HB3.out)
      clear hB
      go_wp2_with (at_make; refine wpList_make_full _ rfl _ _ 24 rfl w3.heap.size 5 i0 (.int .u8 0) 1 Tryd.underlying24 hi0 hz0 hz1 _ _ _ _ (bn + 1498) rfl rfl (by omega) (by omega) (by rw [hz2]; omega) (by unfold maxLen; omega) (Nat.le_refl _) ?_; intro w4 hown1 hgrow1)
      rw [zeros8] at hown1
      have HO4 := Lib.hid (show OwnB w4 w3.heap.size 5 .u8 w3.heap.size (bn + 1498) (bn + 1498) (List.replicate (bn + 1498) 0) from hown1)
      have HB4 := Lib.hid (HB3.out.trans (((Below.refl w3.heap.size w3).grown hgrow1 (Nat.le_refl _) (by simp)).mono HB3.out.size))
      have HS4 := Lib.hid (HS.out.below HB4.out)
      clear hown1 hgrow1
      by_cases hb : bn + 1498 ≤ 1500
      · have hbd : decide ((bn : Int) + 1498 ≤ 1500) = true := by simp; omega
        refine (bytes_yes (⟨⟨0, 0, 0, 0, 0, 0⟩, ⟨0, 0, 0, 0, 0, 0⟩, ⟨0, 0, 0, 0, 0, 0⟩, 0, 0, false, false, false, (some ⟨w3.heap.size, 0, none⟩), (bn + 1498), (bn + 1498)⟩ : Qf) (List.replicate (bn + 1498) 0) w4 ((Qf.ok_iff _).2 (by simp; omega)) (HO4.out.row fun i hi => by rw [show (List.replicate (bn + 1498) (0 : Int)).getD i 0 = 0 by simp [List.getD, hi]]; decide) (fun h => by cases h)).mono ?_
        rintro e w5 ⟨g5, c5, rfl, _, hB⟩
        have HB5 := Lib.hid (HB4.out.trans (hB.mono HB4.out.size))
        have HS5 := Lib.hid (HS.out.below HB5.out)
        clear hB
        go_wp2_with (fail)
        refine (bytes_no (⟨⟨0, 0, 0, 0, 0, 0⟩, ⟨0, 0, 0, 0, 0, 0⟩, ⟨0, 0, 0, 0, 0, 0⟩, 0, (-1), false, false, false, none, 0, 0⟩ : Qf) E w5 (by decide) (HS5.out.at_ 103 (by decide))).mono ?_
        rintro e w6 ⟨rfl, hB⟩
        have HB6 := Lib.hid (HB5.out.trans (hB.mono HB5.out.size))
        have HS6 := Lib.hid (HS.out.below HB6.out)
        clear hB
        go_wp2_with (fail)
        refine (bytes_no (⟨⟨0, 0, 0, 0, 0, 0⟩, ⟨0, 0, 0, 0, 0, 0⟩, ⟨0, 0, 0, 0, 0, 0⟩, (-1), 0, false, false, false, none, 0, 0⟩ : Qf) E w6 (by decide) (HS6.out.at_ 103 (by decide))).mono ?_
        rintro e w7 ⟨rfl, hB⟩
        have HB7 := Lib.hid (HB6.out.trans (hB.mono HB6.out.size))
        have HS7 := Lib.hid (HS.out.below HB7.out)
        have HI := Lib.hid (is_err E 103 103 w7 HS7.out (by decide))
        clear hB
        go_wp2_with (go_at_call 13; refine HI.out.mono ?_; rintro e w8 ⟨rfl, hB⟩; have HB8 := Lib.hid (HB7.out.trans (hB.mono HB7.out.size)); have HS8 := Lib.hid (HS.out.below HB8.out); clear hB)
        refine (is_err E 103 103 w8 HS8.out (by decide)).mono ?_
        rintro e w9 ⟨rfl, hB⟩
        have HB9 := Lib.hid (HB8.out.trans (hB.mono HB8.out.size))
        clear hB
        go_wp2
        go_ret
        exact ⟨rfl, HB9.out⟩
      · have hbd : decide ((bn : Int) + 1498 ≤ 1500) = false := by simp; omega
        refine (bytes_no (⟨⟨0, 0, 0, 0, 0, 0⟩, ⟨0, 0, 0, 0, 0, 0⟩, ⟨0, 0, 0, 0, 0, 0⟩, 0, 0, false, false, false, (some ⟨w3.heap.size, 0, none⟩), (bn + 1498), (bn + 1498)⟩ : Qf) E w4 (by rw [Bool.eq_false_iff]; intro h; have := (Qf.ok_iff _).1 h; simp at this; omega) (HS4.out.at_ 103 (by decide))).mono ?_
        rintro e w5 ⟨rfl, hB⟩
        have HB5 := Lib.hid (HB4.out.trans (hB.mono HB4.out.size))
        have HS5 := Lib.hid (HS.out.below HB5.out)
        clear hB
        go_wp2_with (fail)
        refine (bytes_no (⟨⟨0, 0, 0, 0, 0, 0⟩, ⟨0, 0, 0, 0, 0, 0⟩, ⟨0, 0, 0, 0, 0, 0⟩, 0, (-1), false, false, false, none, 0, 0⟩ : Qf) E w5 (by decide) (HS5.out.at_ 103 (by decide))).mono ?_
        rintro e w6 ⟨rfl, hB⟩
        have HB6 := Lib.hid (HB5.out.trans (hB.mono HB5.out.size))
        have HS6 := Lib.hid (HS.out.below HB6.out)
        clear hB
        go_wp2_with (fail)
        refine (bytes_no (⟨⟨0, 0, 0, 0, 0, 0⟩, ⟨0, 0, 0, 0, 0, 0⟩, ⟨0, 0, 0, 0, 0, 0⟩, (-1), 0, false, false, false, none, 0, 0⟩ : Qf) E w6 (by decide) (HS6.out.at_ 103 (by decide))).mono ?_
        rintro e w7 ⟨rfl, hB⟩
        have HB7 := Lib.hid (HB6.out.trans (hB.mono HB6.out.size))
        have HS7 := Lib.hid (HS.out.below HB7.out)
        have HI := Lib.hid (is_err E 103 103 w7 HS7.out (by decide))
        clear hB
        go_wp2_with (go_at_call 13; refine HI.out.mono ?_; rintro e w8 ⟨rfl, hB⟩; have HB8 := Lib.hid (HB7.out.trans (hB.mono HB7.out.size)); have HS8 := Lib.hid (HS.out.below HB8.out); clear hB)
        refine (is_err E 103 103 w8 HS8.out (by decide)).mono ?_
        rintro e w9 ⟨rfl, hB⟩
        have HB9 := Lib.hid (HB8.out.trans (hB.mono HB8.out.size))
        clear hB
        go_wp2
        go_ret
        exact ⟨rfl, HB9.out⟩
  · have hsd : decide (s + 4093 ≤ 4095) = false := by simp; omega
    refine (bytes_no (⟨⟨0, 0, 0, 0, 0, 0⟩, ⟨0, 0, 0, 0, 0, 0⟩, ⟨0, 0, 0, 0, 0, 0⟩, 0, (s + 4093), false, false, false, none, 0, 0⟩ : Qf) E w1 (by rw [Bool.eq_false_iff]; intro h; have := (Qf.ok_iff _).1 h; simp at this; omega) (HS1.out.at_ 103 (by decide))).mono ?_
    rintro e w2 ⟨rfl, hB⟩
    have HB2 := Lib.hid (HB1.out.trans (hB.mono HB1.out.size))
    have HS2 := Lib.hid (HS.out.below HB2.out)
    clear hB
    go_wp2_with (fail)
    by_cases ht : t + 5 ≤ 7
    · have htd : decide (t + 5 ≤ 7) = true := by simp; omega
      refine (bytes_yes (⟨⟨0, 0, 0, 0, 0, 0⟩, ⟨0, 0, 0, 0, 0, 0⟩, ⟨0, 0, 0, 0, 0, 0⟩, (t + 5), 0, false, false, false, none, 0, 0⟩ : Qf) [] w2 ((Qf.ok_iff _).2 (by simp; omega)) RowB.nil (fun _ => rfl)).mono ?_
      rintro e w3 ⟨g3, c3, rfl, _, hB⟩
      have HB3 := Lib.hid (HB2.out.trans (hB.mono HB2.out.size))
      have HS3 := Lib.hid (HS.out.below HB3.out)
      clear hB
      go_wp2_with (at_make; refine wpList_make_full _ rfl _ _ 24 rfl w3.heap.size 5 i0 (.int .u8 0) 1 Tryd.underlying24 hi0 hz0 hz1 _ _ _ _ (bn + 1498) rfl rfl (by omega) (by omega) (by rw [hz2]; omega) (by unfold maxLen; omega) (Nat.le_refl _) ?_; intro w4 hown1 hgrow1)
      rw [zeros8] at hown1
      have HO4 := Lib.hid (show OwnB w4 w3.heap.size 5 .u8 w3.heap.size (bn + 1498) (bn + 1498) (List.replicate (bn + 1498) 0) from hown1)
      have HB4 := Lib.hid (HB3.out.trans (((Below.refl w3.heap.size w3).grown hgrow1 (Nat.le_refl _) (by simp)).mono HB3.out.size))
      have HS4 := Lib.hid (HS.out.below HB4.out)
      clear hown1 hgrow1
      by_cases hb : bn + 1498 ≤ 1500
      · have hbd : decide ((bn : Int) + 1498 ≤ 1500) = true := by simp; omega
        refine (bytes_yes (⟨⟨0, 0, 0, 0, 0, 0⟩, ⟨0, 0, 0, 0, 0, 0⟩, ⟨0, 0, 0, 0, 0, 0⟩, 0, 0, false, false, false, (some ⟨w3.heap.size, 0, none⟩), (bn + 1498), (bn + 1498)⟩ : Qf) (List.replicate (bn + 1498) 0) w4 ((Qf.ok_iff _).2 (by simp; omega)) (HO4.out.row fun i hi => by rw [show (List.replicate (bn + 1498) (0 : Int)).getD i 0 = 0 by simp [List.getD, hi]]; decide) (fun h => by cases h)).mono ?_
        rintro e w5 ⟨g5, c5, rfl, _, hB⟩
        have HB5 := Lib.hid (HB4.out.trans (hB.mono HB4.out.size))
        have HS5 := Lib.hid (HS.out.below HB5.out)
        clear hB
        go_wp2_with (fail)
        refine (bytes_no (⟨⟨0, 0, 0, 0, 0, 0⟩, ⟨0, 0, 0, 0, 0, 0⟩, ⟨0, 0, 0, 0, 0, 0⟩, 0, (-1), false, false, false, none, 0, 0⟩ : Qf) E w5 (by decide) (HS5.out.at_ 103 (by decide))).mono ?_
        rintro e w6 ⟨rfl, hB⟩
        have HB6 := Lib.hid (HB5.out.trans (hB.mono HB5.out.size))
        have HS6 := Lib.hid (HS.out.below HB6.out)
        clear hB
        go_wp2_with (fail)
        refine (bytes_no (⟨⟨0, 0, 0, 0, 0, 0⟩, ⟨0, 0, 0, 0, 0, 0⟩, ⟨0, 0, 0, 0, 0, 0⟩, (-1), 0, false, false, false, none, 0, 0⟩ : Qf) E w6 (by decide) (HS6.out.at_ 103 (by decide))).mono ?_
        rintro e w7 ⟨rfl, hB⟩
        have HB7 := Lib.hid (HB6.out.trans (hB.mono HB6.out.size))
        have HS7 := Lib.hid (HS.out.below HB7.out)
        have HI := Lib.hid (is_err E 103 103 w7 HS7.out (by decide))
        clear hB
        go_wp2_with (go_at_call 13; refine HI.out.mono ?_; rintro e w8 ⟨rfl, hB⟩; have HB8 := Lib.hid (HB7.out.trans (hB.mono HB7.out.size)); have HS8 := Lib.hid (HS.out.below HB8.out); clear hB)
        refine (is_err E 103 103 w8 HS8.out (by decide)).mono ?_
        rintro e w9 ⟨rfl, hB⟩
        have HB9 := Lib.hid (HB8.out.trans (hB.mono HB8.out.size))
        clear hB
        go_wp2
        go_ret
        exact ⟨rfl, HB9.out⟩
      · have hbd : decide ((bn : Int) + 1498 ≤ 1500) = false := by simp; omega
        refine (bytes_no (⟨⟨0, 0, 0, 0, 0, 0⟩, ⟨0, 0, 0, 0, 0, 0⟩, ⟨0, 0, 0, 0, 0, 0⟩, 0, 0, false, false, false, (some ⟨w3.heap.size, 0, none⟩), (bn + 1498), (bn + 1498)⟩ : Qf) E w4 (by rw [Bool.eq_false_iff]; intro h; have := (Qf.ok_iff _).1 h; simp at this; omega) (HS4.out.at_ 103 (by decide))).mono ?_
        rintro e w5 ⟨rfl, hB⟩
        have HB5 := Lib.hid (HB4.out.trans (hB.mono HB4.out.size))
        have HS5 := Lib.hid (HS.out.below HB5.out)
        clear hB
        go_wp2_with (fail)
        refine (bytes_no (⟨⟨0, 0, 0, 0, 0, 0⟩, ⟨0, 0, 0, 0, 0, 0⟩, ⟨0, 0, 0, 0, 0, 0⟩, 0, (-1), false, false, false, none, 0, 0⟩ : Qf) E w5 (by decide) (HS5.out.at_ 103 (by decide))).mono ?_
        rintro e w6 ⟨rfl, hB⟩
        have HB6 := Lib.hid (HB5.out.trans (hB.mono HB5.out.size))
        have HS6 := Lib.hid (HS.out.below HB6.out)
        clear hB
        go_wp2_with (fail)
        refine (bytes_no (⟨⟨0, 0, 0, 0, 0, 0⟩, ⟨0, 0, 0, 0, 0, 0⟩, ⟨0, 0, 0, 0, 0, 0⟩, (-1), 0, false, false, false, none, 0, 0⟩ : Qf) E w6 (by decide) (HS6.out.at_ 103 (by decide))).mono ?_
        rintro e w7 ⟨rfl, hB⟩
        have HB7 := Lib.hid (HB6.out.trans (hB.mono HB6.out.size))
        have HS7 := Lib.hid (HS.out.below HB7.out)
        have HI := Lib.hid (is_err E 103 103 w7 HS7.out (by decide))
        clear hB
        go_wp2_with (go_at_call 13; refine HI.out.mono ?_; rintro e w8 ⟨rfl, hB⟩; have HB8 := Lib.hid (HB7.out.trans (hB.mono HB7.out.size)); have HS8 := Lib.hid (HS.out.below HB8.out); clear hB)
        refine (is_err E 103 103 w8 HS8.out (by decide)).mono ?_
        rintro e w9 ⟨rfl, hB⟩
        have HB9 := Lib.hid (HB8.out.trans (hB.mono HB8.out.size))
        clear hB
        go_wp2
        go_ret
        exact ⟨rfl, HB9.out⟩
    · have htd : decide (t + 5 ≤ 7) = false := by simp; omega
      refine (bytes_no (⟨⟨0, 0, 0, 0, 0, 0⟩, ⟨0, 0, 0, 0, 0, 0⟩, ⟨0, 0, 0, 0, 0, 0⟩, (t + 5), 0, false, false, false, none, 0, 0⟩ : Qf) E w2 (by rw [Bool.eq_false_iff]; intro h; have := (Qf.ok_iff _).1 h; simp at this; omega) (HS2.out.at_ 103 (by decide))).mono ?_
      rintro e w3 ⟨rfl, hB⟩
      have HB3 := Lib.hid (HB2.out.trans (hB.mono HB2.out.size))
      have HS3 := Lib.hid (HS.out.below HB3.out)
      clear hB
      go_wp2_with (at_make; refine wpList_make_full _ rfl _ _ 24 rfl w3.heap.size 5 i0 (.int .u8 0) 1 Tryd.underlying24 hi0 hz0 hz1 _ _ _ _ (bn + 1498) rfl rfl (by omega) (by omega) (by rw [hz2]; omega) (by unfold maxLen; omega) (Nat.le_refl _) ?_; intro w4 hown1 hgrow1)
      rw [zeros8] at hown1
      have HO4 := Lib.hid (show OwnB w4 w3.heap.size 5 .u8 w3.heap.size (bn + 1498) (bn + 1498) (List.replicate (bn + 1498) 0) from hown1)
      have HB4 := Lib.hid (HB3.out.trans (((Below.refl w3.heap.size w3).grown hgrow1 (Nat.le_refl _) (by simp)).mono HB3.out.size))
      have HS4 := Lib.hid (HS.out.below HB4.out)
      clear hown1 hgrow1
      by_cases hb : bn + 1498 ≤ 1500
      · have hbd : decide ((bn : Int) + 1498 ≤ 1500) = true := by simp; omega
        refine (bytes_yes (⟨⟨0, 0, 0, 0, 0, 0⟩, ⟨0, 0, 0, 0, 0, 0⟩, ⟨0, 0, 0, 0, 0, 0⟩, 0, 0, false, false, false, (some ⟨w3.heap.size, 0, none⟩), (bn + 1498), (bn + 1498)⟩ : Qf) (List.replicate (bn + 1498) 0) w4 ((Qf.ok_iff _).2 (by simp; omega)) (HO4.out.row fun i hi => by rw [show (List.replicate (bn + 1498) (0 : Int)).getD i 0 = 0 by simp [List.getD, hi]]; decide) (fun h => by cases h)).mono ?_
        rintro e w5 ⟨g5, c5, rfl, _, hB⟩
        have HB5 := Lib.hid (HB4.out.trans (hB.mono HB4.out.size))
        have HS5 := Lib.hid (HS.out.below HB5.out)
        clear hB
        go_wp2_with (fail)
        refine (bytes_no (⟨⟨0, 0, 0, 0, 0, 0⟩, ⟨0, 0, 0, 0, 0, 0⟩, ⟨0, 0, 0, 0, 0, 0⟩, 0, (-1), false, false, false, none, 0, 0⟩ : Qf) E w5 (by decide) (HS5.out.at_ 103 (by decide))).mono ?_
        rintro e w6 ⟨rfl, hB⟩
        have HB6 := Lib.hid (HB5.out.trans (hB.mono HB5.out.size))
        have HS6 := Lib.hid (HS.out.below HB6.out)
        clear hB
        go_wp2_with (fail)
        refine (bytes_no (⟨⟨0, 0, 0, 0, 0, 0⟩, ⟨0, 0, 0, 0, 0, 0⟩, ⟨0, 0, 0, 0, 0, 0⟩, (-1), 0, false, false, false, none, 0, 0⟩ : Qf) E w6 (by decide) (HS6.out.at_ 103 (by decide))).mono ?_
        rintro e w7 ⟨rfl, hB⟩
        have HB7 := Lib.hid (HB6.out.trans (hB.mono HB6.out.size))
        have HS7 := Lib.hid (HS.out.below HB7.out)
        have HI := Lib.hid (is_err E 103 103 w7 HS7.out (by decide))
        clear hB
        go_wp2_with (go_at_call 13; refine HI.out.mono ?_; rintro e w8 ⟨rfl, hB⟩; have HB8 := Lib.hid (HB7.out.trans (hB.mono HB7.out.size)); have HS8 := Lib.hid (HS.out.below HB8.out); clear hB)
        refine (is_err E 103 103 w8 HS8.out (by decide)).mono ?_
        rintro e w9 ⟨rfl, hB⟩
        have HB9 := Lib.hid (HB8.out.trans (hB.mono HB8.out.size))
        clear hB
        go_wp2
        go_ret
        exact ⟨rfl, HB9.out⟩
      · have hbd : decide ((bn : Int) + 1498 ≤ 1500) = false := by simp; omega
        refine (bytes_no (⟨⟨0, 0, 0, 0, 0, 0⟩, ⟨0, 0, 0, 0, 0, 0⟩, ⟨0, 0, 0, 0, 0, 0⟩, 0, 0, false, false, false, (some ⟨w3.heap.size, 0, none⟩), (bn + 1498), (bn + 1498)⟩ : Qf) E w4 (by rw [Bool.eq_false_iff]; intro h; have := (Qf.ok_iff _).1 h; simp at this; omega) (HS4.out.at_ 103 (by decide))).mono ?_
        rintro e w5 ⟨rfl, hB⟩
        have HB5 := Lib.hid (HB4.out.trans (hB.mono HB4.out.size))
        have HS5 := Lib.hid (HS.out.below HB5.out)
        clear hB
        go_wp2_with (fail)
        refine (bytes_no (⟨⟨0, 0, 0, 0, 0, 0⟩, ⟨0, 0, 0, 0, 0, 0⟩, ⟨0, 0, 0, 0, 0, 0⟩, 0, (-1), false, false, false, none, 0, 0⟩ : Qf) E w5 (by decide) (HS5.out.at_ 103 (by decide))).mono ?_
        rintro e w6 ⟨rfl, hB⟩
        have HB6 := Lib.hid (HB5.out.trans (hB.mono HB5.out.size))
        have HS6 := Lib.hid (HS.out.below HB6.out)
        clear hB
        go_wp2_with (fail)
        refine (bytes_no (⟨⟨0, 0, 0, 0, 0, 0⟩, ⟨0, 0, 0, 0, 0, 0⟩, ⟨0, 0, 0, 0, 0, 0⟩, (-1), 0, false, false, false, none, 0, 0⟩ : Qf) E w6 (by decide) (HS6.out.at_ 103 (by decide))).mono ?_
        rintro e w7 ⟨rfl, hB⟩
        have HB7 := Lib.hid (HB6.out.trans (hB.mono HB6.out.size))
        have HS7 := Lib.hid (HS.out.below HB7.out)
        have HI := Lib.hid (is_err E 103 103 w7 HS7.out (by decide))
        clear hB
        go_wp2_with (go_at_call 13; refine HI.out.mono ?_; rintro e w8 ⟨rfl, hB⟩; have HB8 := Lib.hid (HB7.out.trans (hB.mono HB7.out.size)); have HS8 := Lib.hid (HS.out.below HB8.out); clear hB)
        refine (is_err E 103 103 w8 HS8.out (by decide)).mono ?_
        rintro e w9 ⟨rfl, hB⟩
        have HB9 := Lib.hid (HB8.out.trans (hB.mono HB8.out.size))
        clear hB
        go_wp2
        go_ret
        exact ⟨rfl, HB9.out⟩

end Go.Proofs.YtogcpommidfmnaaDoor.qosBounds
