/-
  CONTRACT of the reference's All.
-/
import Derived.Test.YtlkoleannlpflaaDoorRateE
import Derived.Test.YtlkoleannlpflaaDoorRateH
namespace Go.Proofs.YtlkoleannlpflaaDoor
open Go.ChangeShapes Go.WideShapes Go.ChangeAt Go.RowKit
set_option linter.unusedVariables false
set_option linter.unusedSimpArgs false

theorem rt_at {m : Int} {a S p d j : Nat} (ha : a < 12) (h1 : 1 ≤ S) (h8 : S ≤ 8) (hp : p < 4) (hd : d < 3) (hj : j = 96 * a + 12 * (S - 1) + 3 * p + d) : rt m j = ⟨m, a, S, 20 * 2 ^ p, d⟩ := by
  have e1 : j / 96 = a := by omega
  have e2 : j / 12 % 8 + 1 = S := by omega
  have e3 : j / 3 % 4 = p := by omega
  have e4 : j % 3 = d := by omega
  unfold rt
  rw [e1, e2, e3, e4]
theorem pw_in {p : Nat} (h : p < 4) : 20 ≤ (20 : Int) * 2 ^ p ∧ (20 : Int) * 2 ^ p ≤ 160 := by
  rcases (by omega : p = 0 ∨ p = 1 ∨ p = 2 ∨ p = 3) with rfl | rfl | rfl | rfl <;> decide
theorem pw_next (p : Nat) : 2 * ((20 : Int) * 2 ^ p) = 20 * 2 ^ (p + 1) := by rw [Int.pow_succ]; omega
theorem pw_lt {p : Nat} (h4 : p ≤ 4) (h : (20 : Int) * 2 ^ p ≤ 160) : p < 4 := by
  rcases (by omega : p = 0 ∨ p = 1 ∨ p = 2 ∨ p = 3 ∨ p = 4) with rfl | rfl | rfl | rfl | rfl <;> first | omega | (simp at h)
set_option maxRecDepth 100000 in
set_option maxHeartbeats 8000000 in
theorem refall_any (m : Int) (w : World) :
    Calls Tryd.prog 14 #[.int .i64 m] w fun e w' => OutAll m w e w' := by
  go_enter Tryd.func14, Tryd.ntmps14
  go_wp2
  go_loopw [3, 4] (fun v i wr => ∃ a n : Nat, a ≤ 12 ∧ i = .int .i64 a ∧ OwnR wr w.heap.size v n (allTo m (96 * a)) ∧ Below w.heap.size w wr) (fun _ i _ => 12 - (intOf i).toNat)
  case atStart => exact ⟨0, 0, by omega, rfl, OwnS.nil _ _ _, Below.refl _ _⟩
  case round =>
    obtain ⟨a, n1, ha, rfl, hown, hbel⟩ := hrel
    have HO := Lib.hid hown
    have HB := Lib.hid hbel
    clear hown hbel
    by_cases hlt1 : a < 12
    · have da : decide ((a : Int) ≤ 11) = true := by simp; omega
      go_wp2
      obtain ⟨wq1, rfl⟩ : ∃ wq, wq = wr := ⟨_, rfl⟩
      go_loopw [3, 5] (fun v i wr => ∃ S n j : Nat, 1 ≤ S ∧ S ≤ 9 ∧ i = .int .i64 S ∧ j = 96 * a + 12 * (S - 1) ∧ OwnR wr w.heap.size v n (allTo m j) ∧ Below w.heap.size w wr) (fun _ i _ => 9 - (intOf i).toNat)
      case atStart => exact ⟨1, n1, 96 * a, by omega, by omega, rfl, by omega, HO.out, HB.out⟩
      case round =>
        obtain ⟨S, n2, j2, hS1, hS9, rfl, hj2, hown, hbel⟩ := hrel
        clear HO HB
        have HO := Lib.hid hown
        have HB := Lib.hid hbel
        clear hown hbel
        by_cases hlt2 : S ≤ 8
        · have dS : decide ((S : Int) ≤ 8) = true := by simp; omega
          have hj2' := Lib.hid hj2
          clear hj2
          go_wp2
          obtain ⟨wq2, rfl⟩ : ∃ wq, wq = wr := ⟨_, rfl⟩
          go_loopw [3, 6] (fun v i wr => ∃ (p n j : Nat) (W : Int), p ≤ 4 ∧ W = 20 * 2 ^ p ∧ i = .int .i64 W ∧ j = 96 * a + 12 * (S - 1) + 3 * p ∧ OwnR wr w.heap.size v n (allTo m j) ∧ Below w.heap.size w wr) (fun _ i _ => (320 - intOf i).toNat)
          case atStart => exact ⟨0, n2, j2, 20, by omega, rfl, rfl, by have := hj2'.out; omega, HO.out, HB.out⟩
          case round =>
            obtain ⟨p, n3, j3, W, hp, hWE, rfl, hj3, hown, hbel⟩ := hrel
            clear HO HB
            have HO := Lib.hid hown
            have HB := Lib.hid hbel
            have HWE := Lib.hid hWE
            clear hown hbel hj2' hWE
            by_cases hlt3 : p < 4
            · have pwi : 20 ≤ W ∧ W ≤ 160 := by have := HWE.out; rw [this]; exact pw_in hlt3
              have hW0 := pwi.1
              have hW1 := pwi.2
              have hj3' := Lib.hid hj3
              clear hj3
              go_wp2
              obtain ⟨wq3, rfl⟩ : ∃ wq, wq = wr := ⟨_, rfl⟩
              clear hW0 hW1
              have pwj := pwi
              go_loopw [3, 7] (fun v i wr => ∃ d n j : Nat, d ≤ 3 ∧ i = .int .i64 d ∧ j = 96 * a + 12 * (S - 1) + 3 * p + d ∧ OwnR wr w.heap.size v n (allTo m j) ∧ Below w.heap.size w wr) (fun _ i _ => 3 - (intOf i).toNat)
              case atStart => exact ⟨0, n3, j3, by omega, rfl, by have := hj3'.out; omega, HO.out, HB.out⟩
              case round =>
                obtain ⟨d, n4, j4, hd, rfl, hj4, hown, hbel⟩ := hrel
                clear HO HB
                have HO := Lib.hid hown
                have HB := Lib.hid hbel
                clear hown hbel hj3'
                by_cases hlt4 : d < 3
                · have HRT := Lib.hid (rt_at (m := m) hlt1 hS1 hlt2 hlt3 hlt4 hj4)
                  rw [← HWE.out] at HRT
                  have HLN := Lib.hid (allTo_len m j4)
                  have hn4 : n4 ≤ 100000 := by have h1 := HLN.out; rw [HO.out.2] at h1; omega
                  have HJ := Lib.hid hj4
                  clear hj4
                  have hW0 := pwi.1
                  have hW1 := pwi.2
                  have HB5 := Lib.hid (HB.out.alloc HB.out.size (.cells (Rt.arr ⟨m, a, S, W, d⟩) 23))
                  have HO5 := Lib.hid (HO.out.below ((Below.refl wr.heap.size wr).alloc (Nat.le_refl _) (.cells (Rt.arr ⟨m, a, S, W, d⟩) 23)))
                  have HG5 := Lib.hid (heap_alloc_last wr (.cells (Rt.arr ⟨m, a, S, W, d⟩) 23))
                  clear HB HO
                  go_wp2_with (fail)
                  generalize World.alloc wr _ = w5 at *
                  generalize wr.heap.size = gr at *
                  refine (refvalid_any ⟨m, a, S, W, d⟩ w5 ⟨by show (-9223372036854775808 : Int) ≤ (S : Int); omega, by show (S : Int) ≤ 9223372036854775807; omega⟩).mono ?_
                  rintro e w6 ⟨rfl, hB⟩
                  have HB6 := Lib.hid (HB5.out.trans (hB.mono HB5.out.size))
                  have HO6 := Lib.hid (HO5.out.below hB)
                  have HG6 := Lib.hid ((hB.block _ (lt_blk HG5.out)).trans HG5.out)
                  clear hB HB5 HO5 HG5
                  cases hv : validR ⟨m, a, S, W, d⟩
                  · have HN := Lib.hid (show allTo m (j4 + 1) = allTo m j4 from allTo_no (by rw [HRT.out]; exact hv))
                    clear hv
                    go_wp2
                    go_roundw
                    case rel => exact ⟨d + 1, n4, j4 + 1, by omega, by go_num, by have := HJ.out; omega, by rw [HN.out]; exact HO6.out, HB6.out⟩
                    case measure => simp [intOf]; omega
                  · have HN := Lib.hid (show allTo m (j4 + 1) = allTo m j4 ++ [⟨m, a, S, W, d⟩] by rw [allTo_yes (by rw [HRT.out]; exact hv), HRT.out])
                    clear hv
                    go_wp2_with (first | (refine wpList_load_row rfl 23 (.tmp 8) rfl gr rfl 23 (Rt.arr ⟨m, a, S, W, d⟩) (0, 0) _ HG6.out Tryd.underlying23 rfl sizeRate ?_) | (refine app_r rfl (.tmp 33) (.tmp 35) rfl w.heap.size n4 u3 (allTo m j4) rfl (HO6.out.below ((Below.refl w6.heap.size w6).alloc (Nat.le_refl _) _)) ⟨m, a, S, W, d⟩ ⟨w6.heap.size, 0, none⟩ 1 rfl (World.news_of_block (cs := #[.int .i64 m, .int .i64 a, .int .i64 S, .int .i64 W, .int .i64 d]) (t := 23) (fr := (0, 0)) (heap_alloc_new w6 _)) hn4 (by have := HB6.out.size; simp; omega) ?_; intro g7 cap7 w7 hO7 hb7; have HO7 := hO7; have HB7 := Lib.hid ((HB6.out.alloc HB6.out.size _).trans hb7.out); clear hO7 hb7 HO6 HB6 HG6))
                    go_roundw
                    case rel => exact ⟨d + 1, n4 + 1, j4 + 1, by omega, by go_num, by have := HJ.out; omega, by rw [HN.out]; exact HO7.out, HB7.out⟩
                    case measure => simp [intOf]; omega
                · clear pwi
                  have HJ := Lib.hid (show j4 = 96 * a + 12 * (S - 1) + 3 * (p + 1) by omega)
                  have HWN := Lib.hid (show 2 * W = 20 * 2 ^ (p + 1) by rw [HWE.out, pw_next])
                  have hW0 := pwj.1
                  have hW1 := pwj.2
                  clear pwj
                  go_wp2
                  go_roundw
                  case rel => exact ⟨p + 1, n4, j4, 2 * W, by omega, HWN.out, by go_num, HJ.out, HO.out, HB.out⟩
                  case measure => simp [intOf]; omega
            · have hp4 : p = 4 := by omega
              have hWv : W = 320 := by have := HWE.out; rw [this, hp4]; decide
              have HJ := Lib.hid (show j3 = 96 * a + 12 * (S + 1 - 1) by omega)
              clear hj3 HWE
              subst hWv
              go_wp2
              go_roundw
              case rel => exact ⟨S + 1, n3, j3, by omega, by omega, by go_num, HJ.out, HO.out, HB.out⟩
              case measure => simp [intOf]; omega
        · have HJ := Lib.hid (show j2 = 96 * (a + 1) by omega)
          clear hj2
          go_wp2
          go_roundw
          case rel => exact ⟨a + 1, n2, by omega, by go_num, by rw [← HJ.out]; exact HO.out, HB.out⟩
          case measure => simp [intOf]; omega
    · have hh : a = 12 := by omega
      subst hh
      go_wp2
      go_ret
      exact OutAll.of HO.out HB.out
end Go.Proofs.YtlkoleannlpflaaDoor
