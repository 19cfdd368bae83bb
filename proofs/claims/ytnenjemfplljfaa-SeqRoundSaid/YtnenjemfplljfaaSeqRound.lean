/-
  muezzinlaw1.SeqRound returns true, for all three integers; no condition.
-/
import Derived.Test.YtnenjemfplljfaaSeqC
import Derived.WalkKit
import Derived.ProofKit
import Derived.OpenShut
namespace Go.Proofs.Ytnenjemfplljfaa.seqRound
open Go.ChangeShapes Go.WideShapes Go.ChangeAt Go.RowKit
set_option linter.unusedVariables false      -- a walk need not use every 'w<i>' (that an integer argument fits its kind)

theorem own : ownKnob Try.prog.godebug = none := by kernel_rfl

/-! ### STEP 1: THE WALK: the Go text returns true. 'Grown w w'': the world has at most new blocks (Derived/RowKit3.lean). Part the cases AHEAD of 'go_enter' where a test parts the walk; take each callee by a contract of your own. -/
set_option maxHeartbeats 4000000 in
theorem walk (a0 : Int) (a1 : Int) (a2 : Int) (w0 : (Lit.int .i64 a0).wf = true) (w1 : (Lit.int .i64 a1).wf = true) (w2 : (Lit.int .i64 a2).wf = true) (w : World) :
    Calls Try.prog 3 #[.int .i64 a0, .int .i64 a1, .int .i64 a2] w fun e w' => e = .returned (.bool true) ∧ Grown w w' := by
  have x0 := rd_lo a0
  have x1 := rd_hi a0
  have y0 := rd_lo a1
  have y1 := rd_hi a1
  have z0 := rd_lo a2
  have z1 := rd_hi a2
  have d0 := rd_lo (rd a1 - rd a0)
  have d1 := rd_hi (rd a1 - rd a0)
  have e0 := rd_lo (rd a0 - rd a1)
  have e1 := rd_hi (rd a0 - rd a1)
  have h1 : (rd (rd (rd a0 + rd a2) - rd a0) == rd a2) = true := by unfold rd; simp; omega
  have h2 : (rd (rd a0 + rd (rd a1 - rd a0)) == rd a1) = true := by unfold rd; simp; omega
  have h3 : ((rd (rd a1 - rd a0) + rd (rd a0 - rd a1)) % 4096 == 0) = true := by unfold rd; simp; omega
  have h4 : (rd (rd a0 + -rd a2) == rd (rd a0 + (4096 - rd a2))) = true := by unfold rd; simp; omega
  by_cases hxy : rd a0 = rd a1
  · have k1 : (rd a0 == rd a1) = true := by simpa using hxy
    have k2 : (rd (rd a1 - rd a0) == 0) = true := by rw [hxy]; simp [rd]
    have k3 : (rd (rd a1 - rd a0) == 2048) = false := by rw [hxy]; simp [rd]
    have k4 : aheadB (rd a0) (rd a1) = false := by rw [hxy]; simp [rd, aheadB]
    have k5 : aheadB (rd a1) (rd a0) = false := by rw [hxy]; simp [rd, aheadB]
    clear hxy
    go_enter Try.func3, Try.ntmps3
    go_wp2_with (first | (go_at_call 6; refine (first_any _).mono ?_; rintro e w' ⟨rfl, rfl⟩) | (go_at_call 7; refine (number4_any _ _ (by assumption)).mono ?_; rintro e w' ⟨rfl, rfl⟩) | (go_at_call 8; refine (dist_any _ _ _).mono ?_; rintro e w' ⟨rfl, rfl⟩) | (go_at_call 9; refine (add_any _ _ _).mono ?_; rintro e w' ⟨rfl, rfl⟩) | (go_at_call 10; refine (ahead_any _ _ _).mono ?_; rintro e w' ⟨rfl, rfl⟩))
    go_ret
    exact ⟨rfl, Grown.refl _⟩
  · have k1 : (rd a0 == rd a1) = false := by simpa using hxy
    have k2 : (rd (rd a1 - rd a0) == 0) = false := by unfold rd at *; simp; omega
    have hs : rd (rd a1 - rd a0) + rd (rd a0 - rd a1) = 4096 := by unfold rd at *; omega
    by_cases hd : rd (rd a1 - rd a0) = 2048
    · have k3 : (rd (rd a1 - rd a0) == 2048) = true := by simpa using hd
      have k4 : aheadB (rd a0) (rd a1) = false := by simp [aheadB]; omega
      have k5 : aheadB (rd a1) (rd a0) = false := by simp [aheadB]; omega
      clear hxy hd hs
      go_enter Try.func3, Try.ntmps3
      go_wp2_with (first | (go_at_call 6; refine (first_any _).mono ?_; rintro e w' ⟨rfl, rfl⟩) | (go_at_call 7; refine (number4_any _ _ (by assumption)).mono ?_; rintro e w' ⟨rfl, rfl⟩) | (go_at_call 8; refine (dist_any _ _ _).mono ?_; rintro e w' ⟨rfl, rfl⟩) | (go_at_call 9; refine (add_any _ _ _).mono ?_; rintro e w' ⟨rfl, rfl⟩) | (go_at_call 10; refine (ahead_any _ _ _).mono ?_; rintro e w' ⟨rfl, rfl⟩))
      go_ret
      exact ⟨rfl, Grown.refl _⟩
    · have k3 : (rd (rd a1 - rd a0) == 2048) = false := by simpa using hd
      by_cases hl : rd (rd a1 - rd a0) < 2048
      · have k4 : aheadB (rd a0) (rd a1) = true := by simp [aheadB]; simp at k2; omega
        have k5 : aheadB (rd a1) (rd a0) = false := by simp [aheadB]; omega
        clear hxy hd hs hl
        go_enter Try.func3, Try.ntmps3
        go_wp2_with (first | (go_at_call 6; refine (first_any _).mono ?_; rintro e w' ⟨rfl, rfl⟩) | (go_at_call 7; refine (number4_any _ _ (by assumption)).mono ?_; rintro e w' ⟨rfl, rfl⟩) | (go_at_call 8; refine (dist_any _ _ _).mono ?_; rintro e w' ⟨rfl, rfl⟩) | (go_at_call 9; refine (add_any _ _ _).mono ?_; rintro e w' ⟨rfl, rfl⟩) | (go_at_call 10; refine (ahead_any _ _ _).mono ?_; rintro e w' ⟨rfl, rfl⟩))
        go_ret
        exact ⟨rfl, Grown.refl _⟩
      · have k4 : aheadB (rd a0) (rd a1) = false := by simp [aheadB]; omega
        have k5 : aheadB (rd a1) (rd a0) = true := by simp [aheadB]; simp at k2; omega
        clear hxy hd hs hl
        go_enter Try.func3, Try.ntmps3
        go_wp2_with (first | (go_at_call 6; refine (first_any _).mono ?_; rintro e w' ⟨rfl, rfl⟩) | (go_at_call 7; refine (number4_any _ _ (by assumption)).mono ?_; rintro e w' ⟨rfl, rfl⟩) | (go_at_call 8; refine (dist_any _ _ _).mono ?_; rintro e w' ⟨rfl, rfl⟩) | (go_at_call 9; refine (add_any _ _ _).mono ?_; rintro e w' ⟨rfl, rfl⟩) | (go_at_call 10; refine (ahead_any _ _ _).mono ?_; rintro e w' ⟨rfl, rfl⟩))
        go_ret
        exact ⟨rfl, Grown.refl _⟩

/-! ### THE ROW's STEP: WRITTEN OUT: LEAVE IT -/
set_option maxRecDepth 100000 in
theorem lifted (os : Os) (started : os.Started) (H : Type) (enc : TypeId × Value → H) :
    ReturnsInHanded {} Try.checked os 3 .any (Rows.seqRoundSpec.pre6 enc Try.prog Try.f3 Rows.seqRoundRow.domain false) (Rows.seqRoundSpec.post enc Try.prog Try.f3 false true false false) := by
  refine returnsInHanded_of_change (C := Try.checked) own started (by kernel_rfl) Try.func3
    (ChangeSpec.witness6 (enc := enc) (C := Try.checked) false ⟨#[], #[.int .i64 0, .int .i64 0, .int .i64 0], []⟩ 8 (by kernel_rfl) (by kernel_rfl) (by kernel_rfl) (by kernel_rfl)) ?_
  intro W base args ds gs before hval0 hW hcnd _
  have hval : ∀ (j : Nat) t v, Try.f3.params[j]? = some t → args[j]? = some v → Value.okWide Try.prog W .any base t v := hval0
  have hW' := hW
  obtain ⟨p, q, hA0, hV, rfl, hfz, hnd⟩ := hW
  have hA : DataW.TrodAll enc Try.prog W 0 (fun _ => true) true Try.f3.params.toList args.toList ds p := hA0
  rw [Try.params3] at hA hval
  obtain ⟨v0, vs0, d0, ds0, p0, q0, hargs, rfl, rfl, h0, r0⟩ := trodAll_cons hA
  obtain ⟨v1, vs1, d1, ds1, p1, q1, rfl, rfl, rfl, h1, r1⟩ := trodAll_cons r0
  obtain ⟨v2, vs2, d2, ds2, p2, q2, rfl, rfl, rfl, h2, r2⟩ := trodAll_cons r1
  obtain ⟨rfl, rfl, rfl⟩ := trodAll_nil r2
  obtain rfl : args = #[v0, v1, v2] := by cases args; simp_all
  obtain ⟨rfl, rfl⟩ := trodVars_none hV
  obtain ⟨a0, rfl, rfl, rfl, w0⟩ := open_int Try.underlying3 (hval 0 3 v0 rfl rfl) h0
  obtain ⟨a1, rfl, rfl, rfl, w1⟩ := open_int Try.underlying3 (hval 1 3 v1 rfl rfl) h1
  obtain ⟨a2, rfl, rfl, rfl, w2⟩ := open_int Try.underlying3 (hval 2 3 v2 rfl rfl) h2
  clear hA0 hval0
  simp only [List.append_nil] at hW'
  refine (walk a0 a1 a2 w0 w1 w2 W).mono fun e W' ⟨he, hg⟩ => ?_
  subst he
  exact ⟨_, rfl, post_of_same (pa := []) (pv := []) hW' (fun _ _ _ => (trodAll_cons_mk (shut_bool Try.underlying4 _) trodAll_mk0)) (fun sp _ => (trodAll_cons_mk (shut_int Try.underlying3 w0) (trodAll_cons_mk (shut_int Try.underlying3 w1) (trodAll_cons_mk (shut_int Try.underlying3 w2) trodAll_mk0)))) (fun _ _ => rfl) rfl
    (hg.frame _) hg.2.1 (ok_one (by kernel_rfl) rfl (okWide_bool_mk Try.underlying4 _))⟩

theorem over : Rows.seqRoundRow.holds Try.pinned (OpenSpec.ofChange Rows.seqRoundSpec) :=
  OpenClaim.holds_of_wide 3 Try.f3 rfl rfl rfl rfl rfl rfl rfl ⟨rfl, rfl, rfl, rfl, rfl⟩ rfl rfl rfl rfl rfl (by kernel_rfl) Try.func3 (by kernel_rfl)
    (of_decide_eq_true (by kernel_rfl)) (by unfold Func.isWrapper; first | (rw [if_pos (by decide +kernel)]; kernel_rfl) | (rw [if_neg (by decide +kernel)]; exact ⟨rfl, rfl⟩))
    (fun os started H enc _ => lifted os started H enc)

/-- ████ THE STATEMENT ████ -/
theorem proved : Rows.SeqRoundSaid :=
  over
#print axioms proved
end Go.Proofs.Ytnenjemfplljfaa.seqRound
