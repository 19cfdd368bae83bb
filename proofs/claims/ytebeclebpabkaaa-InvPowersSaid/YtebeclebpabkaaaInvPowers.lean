/-
  muezzin/muezzinlaw10.InvPowers returns true, for all arguments; no condition.
-/
import Derived.Test.YtebeclebpabkaaaInvF
import Derived.WalkKit
import Derived.ProofKit
import Derived.OpenShut
import Derived.ShutString
namespace Go.Proofs.Ytebeclebpabkaaa.invPowers
open Go.ChangeShapes Go.WideShapes Go.ChangeAt Go.RowKit
open Go.ChangeMaps (open_string shut_string)
set_option linter.unusedVariables false
set_option linter.unusedSimpArgs false

theorem own : ownKnob Try.prog.godebug = none := by kernel_rfl


/-- a fact that the walk does not look at. -/
structure Shut (p : Prop) : Prop where
  out : p
theorem pow_inv {j c : Nat} (hj : j < 16) (hc : c = 2 ^ (2 * j)) : invN c = 2 ^ (32 - j) := by
  refine invN_one ?_
  have h := inv_pow j hj
  have : 0 < 2 ^ (2 * j) := Nat.two_pow_pos _
  rw [show max c 1 = 2 ^ (2 * j) by omega]
  exact h
theorem pow_next {t : Int} {n j c : Nat} (hj : j < 16) (hc : c = 2 ^ (2 * j)) (h1 : 0 ≤ t) (h2 : t ≤ 1125899906842624) (hn : n ≤ 1073741824) : nextN t (n : Int) c = t + (n / 2 ^ j : Nat) := by
  unfold nextN nextR
  rw [pow_inv hj hc, clamp_id h1 h2, clamp_id (n := (n : Int)) (by omega) (by omega), Int.toNat_natCast, step_pow hj]

/-! ### THE WALK -/
set_option maxRecDepth 100000 in
set_option maxHeartbeats 4000000 in
theorem walk (a0 : Int) (a1 : Int) (a2 : Int) (w0 : (Lit.int .i64 a0).wf = true) (w1 : (Lit.int .i64 a1).wf = true) (w2 : (Lit.int .i64 a2).wf = true) (w : World) :
    Calls Try.prog 6 #[.int .i64 a0, .int .i64 a1, .int .i64 a2] w fun e w' => e = .returned (.bool true) ∧ Grown w w' := by
  have HW0 := Shut.mk w0
  obtain ⟨j, hj⟩ := Int.eq_ofNat_of_zero_le (nmod_lo a0 16 (by decide))
  have hj1 : j < 16 := by have := nmod_hi a0 16 (by decide); omega
  have HJ := Shut.mk hj
  have hjI : (j : Int) < 16 := by omega
  have h1 := wf_i64 w1
  have h2 := wf_i64 w2
  generalize a1 = t at *
  generalize a2 = i at *
  obtain ⟨d, hd⟩ : ∃ d, d = 2 * j := ⟨_, rfl⟩
  have hdI : 2 * (j : Int) = (d : Int) := by omega
  have hd30 : (d : Int) ≤ 30 := by omega
  obtain ⟨m, hm⟩ : ∃ m, m = 32 - j := ⟨_, rfl⟩
  have hmI : 32 - (j : Int) = (m : Int) := by omega
  have hm32 : (m : Int) ≤ 32 := by omega
  obtain ⟨c, hc⟩ : ∃ c, c = 2 ^ (2 * j) := ⟨_, rfl⟩
  obtain ⟨p, hp⟩ : ∃ p, p = 2 ^ (32 - j) := ⟨_, rfl⟩
  have HP := Shut.mk (show invN c = p by rw [pow_inv hj1 hc, hp])
  have hc1 : c < 4294967296 := by rw [hc]; exact Nat.lt_of_le_of_lt (Nat.pow_le_pow_right (by decide) (show 2 * j ≤ 30 by omega)) (by decide)
  have hp1 : p ≤ 4294967296 := by rw [hp]; exact Nat.le_trans (Nat.pow_le_pow_right (by decide) (show 32 - j ≤ 32 by omega)) (by decide)
  have HC := Shut.mk hc1
  have fc : IntKind.u32.wrap ((2 : Int) ^ d) = (c : Int) := by
    have e : (2 : Int) ^ d = (c : Int) := by rw [hc, ← hd]; exact (Int.natCast_pow 2 d).symm
    rw [e, IntKind.wrap_u32]; omega
  have fp : IntKind.u64.wrap ((2 : Int) ^ m) = (p : Int) := by
    have e : (2 : Int) ^ m = (p : Int) := by rw [hp, ← hm]; exact (Int.natCast_pow 2 m).symm
    rw [e]; exact u64_in (by omega) (by omega)
  have H0 := Shut.mk inv_0
  rcases (by omega : t < 0 ∨ 1125899906842624 < t ∨ ((0 ≤ t ∧ t ≤ 1125899906842624) ∧ i < 0) ∨ ((0 ≤ t ∧ t ≤ 1125899906842624) ∧ 1073741824 < i) ∨ ((0 ≤ t ∧ t ≤ 1125899906842624) ∧ 0 ≤ i ∧ i ≤ 1073741824)) with h | h | h | h | h
  · have f1 : t < 0 := by omega
    clear hj hj1 hd hm hc hp hc1 hp1 h w0 w1 w2 h1 h2
    go_enter Try.func6, Try.ntmps6
    go_wp2_with (fail)
    refine (first_any _).mono ?_
    rintro e wn ⟨rfl, rfl⟩
    go_wp2_with (fail)
    refine (number_any a0 16 _ HW0.out (by decide) (by decide)).mono ?_
    rintro e wn ⟨rfl, rfl⟩
    rw [HJ.out]
    go_wp2
    go_ret
    exact ⟨rfl, Grown.refl _⟩
  · have f1 : ¬ t < 0 := by omega
    have f2 : 1125899906842624 < t := by omega
    clear hj hj1 hd hm hc hp hc1 hp1 h w0 w1 w2 h1 h2
    go_enter Try.func6, Try.ntmps6
    go_wp2_with (fail)
    refine (first_any _).mono ?_
    rintro e wn ⟨rfl, rfl⟩
    go_wp2_with (fail)
    refine (number_any a0 16 _ HW0.out (by decide) (by decide)).mono ?_
    rintro e wn ⟨rfl, rfl⟩
    rw [HJ.out]
    go_wp2
    go_ret
    exact ⟨rfl, Grown.refl _⟩
  · have f1 : ¬ t < 0 := by omega
    have f2 : ¬ 1125899906842624 < t := by omega
    have f3 : i < 0 := by omega
    clear hj hj1 hd hm hc hp hc1 hp1 h w0 w1 w2 h1 h2
    go_enter Try.func6, Try.ntmps6
    go_wp2_with (fail)
    refine (first_any _).mono ?_
    rintro e wn ⟨rfl, rfl⟩
    go_wp2_with (fail)
    refine (number_any a0 16 _ HW0.out (by decide) (by decide)).mono ?_
    rintro e wn ⟨rfl, rfl⟩
    rw [HJ.out]
    go_wp2
    go_ret
    exact ⟨rfl, Grown.refl _⟩
  · have f1 : ¬ t < 0 := by omega
    have f2 : ¬ 1125899906842624 < t := by omega
    have f3 : ¬ i < 0 := by omega
    have f4 : 1073741824 < i := by omega
    clear hj hj1 hd hm hc hp hc1 hp1 h w0 w1 w2 h1 h2
    go_enter Try.func6, Try.ntmps6
    go_wp2_with (fail)
    refine (first_any _).mono ?_
    rintro e wn ⟨rfl, rfl⟩
    go_wp2_with (fail)
    refine (number_any a0 16 _ HW0.out (by decide) (by decide)).mono ?_
    rintro e wn ⟨rfl, rfl⟩
    rw [HJ.out]
    go_wp2
    go_ret
    exact ⟨rfl, Grown.refl _⟩
  · obtain ⟨n, rfl⟩ := Int.eq_ofNat_of_zero_le h.2.1
    have f1 : ¬ t < 0 := by omega
    have f2 : ¬ 1125899906842624 < t := by omega
    have f3 : ¬ (n : Int) < 0 := by omega
    have f4 : ¬ 1073741824 < (n : Int) := by omega
    obtain ⟨e, he⟩ : ∃ e, e = n / 2 ^ j := ⟨_, rfl⟩
    have he1 : e ≤ n := by rw [he]; exact Nat.div_le_self _ _
    have fe : (n : Int) / 2 ^ j = (e : Int) := by rw [he, Int.natCast_ediv, Int.natCast_pow]; rfl
    have HN := Shut.mk (show nextN t (n : Int) c = t + (e : Int) by rw [pow_next hj1 hc h.1.1 h.1.2 (by omega), he])
    have he2 : (e : Int) ≤ 1073741824 := by omega
    clear he he1
    clear hj hj1 hd hm hc hp hc1 hp1 h w0 w1 w2 h1 h2
    go_enter Try.func6, Try.ntmps6
    go_wp2_with (fail)
    refine (first_any _).mono ?_
    rintro e wn ⟨rfl, rfl⟩
    go_wp2_with (fail)
    refine (number_any a0 16 _ HW0.out (by decide) (by decide)).mono ?_
    rintro e wn ⟨rfl, rfl⟩
    rw [HJ.out]
    go_wp2_with (fail)
    refine (inv_any c _ HC.out).mono ?_
    rintro e wn ⟨rfl, rfl⟩
    rw [HP.out]
    go_wp2_with (fail)
    refine (next_any t n c _ HC.out).mono ?_
    rintro e wn ⟨rfl, rfl⟩
    rw [HN.out]
    go_wp2_with (fail)
    refine (inv_any 0 _ (by decide)).mono ?_
    rintro e wn ⟨rfl, rfl⟩
    rw [H0.out]
    go_wp2
    go_ret
    exact ⟨rfl, Grown.refl _⟩

/-! ### THE ROW -/
set_option maxRecDepth 100000 in
theorem lifted (os : Os) (started : os.Started) (H : Type) (enc : TypeId × Value → H) :
    ReturnsInHanded {} Try.checked os 6 .any (Rows.invPowersSpec.pre6 enc Try.prog Try.f6 Rows.invPowersRow.domain false) (Rows.invPowersSpec.post enc Try.prog Try.f6 false true false false) := by
  refine returnsInHanded_of_change (C := Try.checked) own started (by kernel_rfl) Try.func6
    (ChangeSpec.witness6 (enc := enc) (C := Try.checked) false ⟨#[], #[.int .i64 0, .int .i64 0, .int .i64 0], []⟩ 8 (by kernel_rfl) (by kernel_rfl) (by kernel_rfl) (by kernel_rfl)) ?_
  intro W base args ds gs before hval0 hW hcnd _
  have hval : ∀ (j : Nat) t v, Try.f6.params[j]? = some t → args[j]? = some v → Value.okWide Try.prog W .any base t v := hval0
  have hW' := hW
  obtain ⟨p, q, hA0, hV, rfl, hfz, hnd⟩ := hW
  have hA : DataW.TrodAll enc Try.prog W 0 (fun _ => true) true Try.f6.params.toList args.toList ds p := hA0
  rw [Try.params6] at hA hval
  obtain ⟨v0, vs0, d0, ds0, p0, q0, hargs, rfl, rfl, h0, r0⟩ := trodAll_cons hA
  obtain ⟨v1, vs1, d1, ds1, p1, q1, rfl, rfl, rfl, h1, r1⟩ := trodAll_cons r0
  obtain ⟨v2, vs2, d2, ds2, p2, q2, rfl, rfl, rfl, h2, r2⟩ := trodAll_cons r1
  obtain ⟨rfl, rfl, rfl⟩ := trodAll_nil r2
  obtain rfl : args = #[v0, v1, v2] := by cases args; simp_all
  obtain ⟨rfl, rfl⟩ := trodVars_none hV
  obtain ⟨a0, rfl, rfl, rfl, w0⟩ := open_int Try.underlying3 (hval 0 3 v0 rfl rfl) h0
  obtain ⟨a1, rfl, rfl, rfl, w1⟩ := open_int Try.underlying2 (hval 1 2 v1 rfl rfl) h1
  obtain ⟨a2, rfl, rfl, rfl, w2⟩ := open_int Try.underlying2 (hval 2 2 v2 rfl rfl) h2
  clear hA0 hval0
  simp only [List.append_nil] at hW'
  refine (walk a0 a1 a2 w0 w1 w2 W).mono fun e W' ⟨he, hg⟩ => ?_
  subst he
  exact ⟨_, rfl, post_of_same (pa := []) (pv := []) hW' (fun _ _ _ => (trodAll_cons_mk (shut_bool Try.underlying4 _) trodAll_mk0)) (fun sp _ => (trodAll_cons_mk (shut_int Try.underlying3 w0) (trodAll_cons_mk (shut_int Try.underlying2 w1) (trodAll_cons_mk (shut_int Try.underlying2 w2) trodAll_mk0)))) (fun _ _ => rfl) rfl
    (hg.frame _) hg.2.1 (ok_one (by kernel_rfl) rfl (okWide_bool_mk Try.underlying4 _))⟩

theorem over : Rows.invPowersRow.holds Try.pinned (OpenSpec.ofChange Rows.invPowersSpec) :=
  OpenClaim.holds_of_wide 6 Try.f6 rfl rfl rfl rfl rfl rfl rfl ⟨rfl, rfl, rfl, rfl, rfl⟩ rfl rfl rfl rfl rfl (by kernel_rfl) Try.func6 (by kernel_rfl)
    (of_decide_eq_true (by kernel_rfl)) (by unfold Func.isWrapper; first | (rw [if_pos (by decide +kernel)]; kernel_rfl) | (rw [if_neg (by decide +kernel)]; exact ⟨rfl, rfl⟩))
    (fun os started H enc _ => lifted os started H enc)

theorem proved : Rows.InvPowersSaid :=
  over
#print axioms proved
end Go.Proofs.Ytebeclebpabkaaa.invPowers
