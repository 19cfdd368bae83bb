/-
  muezzin/muezzinlaw12.HashApart returns true, for all arguments; no condition.
-/
import Derived.Test.YtfdbadacmhiciaaHashA
import Derived.WalkKit
import Derived.ProofKit
import Derived.OpenShut
import Derived.ShutString
namespace Go.Proofs.Ytfdbadacmhiciaa.hashApart
open Go.ChangeShapes Go.WideShapes Go.ChangeAt Go.RowKit
open Go.ChangeMaps (open_string shut_string)
set_option linter.unusedVariables false
set_option linter.unusedSimpArgs false

theorem own : ownKnob Try.prog.godebug = none := by kernel_rfl

/-! ### THE WALK -/
set_option maxRecDepth 100000 in
set_option maxHeartbeats 4000000 in
theorem walk (a0 : Int) (a1 : Int) (a2 : Int) (w0 : (Lit.int .u32 a0).wf = true) (w1 : (Lit.int .u32 a1).wf = true) (w2 : (Lit.int .u32 a2).wf = true) (w : World) :
    Calls Try.prog 4 #[.int .u32 a0, .int .u32 a1, .int .u32 a2] w fun e w' => e = .returned (.bool true) ∧ Grown w w' := by
  obtain ⟨a, h0⟩ := uv_of (wf_u32 w0).1 (wf_u32 w0).2
  subst h0
  obtain ⟨b, h1⟩ := uv_of (wf_u32 w1).1 (wf_u32 w1).2
  subst h1
  obtain ⟨s, h2⟩ := uv_of (wf_u32 w2).1 (wf_u32 w2).2
  subst h2
  clear w0 w1 w2
  obtain ⟨y, hy⟩ : ∃ y, ((bkt a s : Nat) : Int) = y := ⟨_, rfl⟩
  have K1 : (0 : Int) ≤ y := by rw [← hy]; exact Int.natCast_nonneg _
  have K2 : y < 16 := by have := bkt_lt a s; omega
  have Y := Shut.mk hy
  clear hy
  have Xaa := Shut.mk (show uv (mixB a a) = 0 by rw [mix_self]; rfl)
  obtain ⟨x, hx⟩ : ∃ x, uv (mixB a s) = x := ⟨_, rfl⟩
  have Xas := Shut.mk hx
  have Xsa := Shut.mk (show uv (mixB s a) = x by rw [mix_comm]; exact hx)
  rcases Decidable.em (a = b) with rfl | h
  · clear hx
    go_enter Try.func4, Try.ntmps4
    go_wp2_with (fail)
    refine (first_any _).mono ?_
    rintro e wn ⟨rfl, rfl⟩
    go_wp2_with (fail)
    refine (mix_any a s _).mono ?_
    rintro e wn ⟨rfl, rfl⟩
    rw [Xas.out]
    go_wp2_with (fail)
    refine (mix_any a s _).mono ?_
    rintro e wn ⟨rfl, rfl⟩
    rw [Xas.out]
    go_wp2_with (fail)
    refine (mix_any s a _).mono ?_
    rintro e wn ⟨rfl, rfl⟩
    rw [Xsa.out]
    go_wp2_with (fail)
    refine (mix_any s a _).mono ?_
    rintro e wn ⟨rfl, rfl⟩
    rw [Xsa.out]
    go_wp2_with (fail)
    refine (mix_any a s _).mono ?_
    rintro e wn ⟨rfl, rfl⟩
    rw [Xas.out]
    go_wp2_with (fail)
    refine (mix_any s a _).mono ?_
    rintro e wn ⟨rfl, rfl⟩
    rw [Xsa.out]
    go_wp2_with (fail)
    refine (bucket_any a s _).mono ?_
    rintro e wn ⟨rfl, rfl⟩
    rw [Y.out]
    go_wp2_with (fail)
    refine (bucket_any a s _).mono ?_
    rintro e wn ⟨rfl, rfl⟩
    rw [Y.out]
    go_wp2_with (fail)
    refine (mix_any a a _).mono ?_
    rintro e wn ⟨rfl, rfl⟩
    rw [Xaa.out]
    go_wp2
    go_ret
    exact ⟨rfl, Grown.refl _⟩
  · obtain ⟨z, hz⟩ : ∃ z, uv (mixB b s) = z := ⟨_, rfl⟩
    have Xbs := Shut.mk hz
    have Xsb := Shut.mk (show uv (mixB s b) = z by rw [mix_comm]; exact hz)
    have E1 : (uv a == uv b) = false := by rw [uv_eq]; simpa using h
    have E2 : (x == z) = false := by rw [← hx, ← hz, uv_eq]; simpa using fun e => h (mix_left e)
    clear hx hz h
    go_enter Try.func4, Try.ntmps4
    go_wp2_with (fail)
    refine (first_any _).mono ?_
    rintro e wn ⟨rfl, rfl⟩
    go_wp2_with (fail)
    refine (mix_any a s _).mono ?_
    rintro e wn ⟨rfl, rfl⟩
    rw [Xas.out]
    go_wp2_with (fail)
    refine (mix_any b s _).mono ?_
    rintro e wn ⟨rfl, rfl⟩
    rw [Xbs.out]
    go_wp2_with (fail)
    refine (mix_any s a _).mono ?_
    rintro e wn ⟨rfl, rfl⟩
    rw [Xsa.out]
    go_wp2_with (fail)
    refine (mix_any s b _).mono ?_
    rintro e wn ⟨rfl, rfl⟩
    rw [Xsb.out]
    go_wp2_with (fail)
    refine (mix_any a s _).mono ?_
    rintro e wn ⟨rfl, rfl⟩
    rw [Xas.out]
    go_wp2_with (fail)
    refine (mix_any s a _).mono ?_
    rintro e wn ⟨rfl, rfl⟩
    rw [Xsa.out]
    go_wp2_with (fail)
    refine (bucket_any a s _).mono ?_
    rintro e wn ⟨rfl, rfl⟩
    rw [Y.out]
    go_wp2_with (fail)
    refine (bucket_any a s _).mono ?_
    rintro e wn ⟨rfl, rfl⟩
    rw [Y.out]
    go_wp2_with (fail)
    refine (mix_any a a _).mono ?_
    rintro e wn ⟨rfl, rfl⟩
    rw [Xaa.out]
    go_wp2
    go_ret
    exact ⟨rfl, Grown.refl _⟩

/-! ### THE ROW -/
set_option maxRecDepth 100000 in
theorem lifted (os : Os) (started : os.Started) (H : Type) (enc : TypeId × Value → H) :
    ReturnsInHanded {} Try.checked os 4 .any (Rows.hashApartSpec.pre6 enc Try.prog Try.f4 Rows.hashApartRow.domain false) (Rows.hashApartSpec.post enc Try.prog Try.f4 false true false false) := by
  refine returnsInHanded_of_change (C := Try.checked) own started (by kernel_rfl) Try.func4
    (ChangeSpec.witness6 (enc := enc) (C := Try.checked) false ⟨#[], #[.int .u32 0, .int .u32 0, .int .u32 0], []⟩ 8 (by kernel_rfl) (by kernel_rfl) (by kernel_rfl) (by kernel_rfl)) ?_
  intro W base args ds gs before hval0 hW hcnd _
  have hval : ∀ (j : Nat) t v, Try.f4.params[j]? = some t → args[j]? = some v → Value.okWide Try.prog W .any base t v := hval0
  have hW' := hW
  obtain ⟨p, q, hA0, hV, rfl, hfz, hnd⟩ := hW
  have hA : DataW.TrodAll enc Try.prog W 0 (fun _ => true) true Try.f4.params.toList args.toList ds p := hA0
  rw [Try.params4] at hA hval
  obtain ⟨v0, vs0, d0, ds0, p0, q0, hargs, rfl, rfl, h0, r0⟩ := trodAll_cons hA
  obtain ⟨v1, vs1, d1, ds1, p1, q1, rfl, rfl, rfl, h1, r1⟩ := trodAll_cons r0
  obtain ⟨v2, vs2, d2, ds2, p2, q2, rfl, rfl, rfl, h2, r2⟩ := trodAll_cons r1
  obtain ⟨rfl, rfl, rfl⟩ := trodAll_nil r2
  obtain rfl : args = #[v0, v1, v2] := by cases args; simp_all
  obtain ⟨rfl, rfl⟩ := trodVars_none hV
  obtain ⟨a0, rfl, rfl, rfl, w0⟩ := open_int Try.underlying22 (hval 0 22 v0 rfl rfl) h0
  obtain ⟨a1, rfl, rfl, rfl, w1⟩ := open_int Try.underlying22 (hval 1 22 v1 rfl rfl) h1
  obtain ⟨a2, rfl, rfl, rfl, w2⟩ := open_int Try.underlying22 (hval 2 22 v2 rfl rfl) h2
  clear hA0 hval0
  simp only [List.append_nil] at hW'
  refine (walk a0 a1 a2 w0 w1 w2 W).mono fun e W' ⟨he, hg⟩ => ?_
  subst he
  exact ⟨_, rfl, post_of_same (pa := []) (pv := []) hW' (fun _ _ _ => (trodAll_cons_mk (shut_bool Try.underlying4 _) trodAll_mk0)) (fun sp _ => (trodAll_cons_mk (shut_int Try.underlying22 w0) (trodAll_cons_mk (shut_int Try.underlying22 w1) (trodAll_cons_mk (shut_int Try.underlying22 w2) trodAll_mk0)))) (fun _ _ => rfl) rfl
    (hg.frame _) hg.2.1 (ok_one (by kernel_rfl) rfl (okWide_bool_mk Try.underlying4 _))⟩

theorem over : Rows.hashApartRow.holds Try.pinned (OpenSpec.ofChange Rows.hashApartSpec) :=
  OpenClaim.holds_of_wide 4 Try.f4 rfl rfl rfl rfl rfl rfl rfl ⟨rfl, rfl, rfl, rfl, rfl⟩ rfl rfl rfl rfl rfl (by kernel_rfl) Try.func4 (by kernel_rfl)
    (of_decide_eq_true (by kernel_rfl)) (by unfold Func.isWrapper; first | (rw [if_pos (by decide +kernel)]; kernel_rfl) | (rw [if_neg (by decide +kernel)]; exact ⟨rfl, rfl⟩))
    (fun os started H enc _ => lifted os started H enc)

theorem proved : Rows.HashApartSaid :=
  over
#print axioms proved
end Go.Proofs.Ytfdbadacmhiciaa.hashApart
